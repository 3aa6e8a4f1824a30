"""Partproof: statements over sums, named functions and arrays."""
