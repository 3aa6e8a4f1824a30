import PyProof.Rows.All
import Wide.All
import OpenK.AllK
import Wide.FinOn
import Lean
import PyProof.EqAt
import PyProof.EqKinds
import PyProof.TupleCall
import PyProof.NsDelKeeps
import PyProof.DictWalks
import KE.KEqDict
import KE.KDictLaws
import KE.KDictList
import PyProof.Rows.SetFrom
import PyProof.WalksEnum
import PyProof.LayNew
import PyProof.Rows.EnumRows
import PyProof.DictItems
import PyProof.Rows.ZipGen
import KE.KTab
import Wide.Seal
import PySem.Challenge.RW_partproof_k81_told_and_taken_back
set_option Elab.async false
set_option linter.all false
set_option maxRecDepth 100000
set_option maxHeartbeats 4000000
noncomputable section
namespace HD
open PySem PySem.W PyProof.Rows
def go (ok : Thread → Bool) (st : SharedT → Thread → Option (SharedT × Thread)) (n : Nat) : SharedT → Thread → Option SharedT :=
 Nat.rec (fun _ _ => none) (fun _ ih s t => match through t with
  | true => some s
  | false => match ok t with
   | false => none
   | true => match st s t with
    | some (s, t) => ih s t
    | none => none) n
theorem gr {tb p w a b} : ∀ (n : Nat) (s t s'), go (stepOk a b) (stepT (denote tb) p w) n s t = some s' → topRun tb p w a b n s.abs t = some s'.abs
 | 0, _, _, _, h => by cases h
 | n + 1, s, t, s', h => by
  have h : (match through t with
   | true => some s
   | false => match stepOk a b t with
    | false => none
    | true => match stepT (denote tb) p w s t with
     | some (s, t) => go (stepOk a b) (stepT (denote tb) p w) n s t
     | none => none) = some s' := h
  unfold topRun
  revert h
  cases through t with
  | true => intro h; cases h; rfl
  | false => cases stepOk a b t with
   | false => intro h; cases h
   | true =>
    dsimp only
    cases e : stepT (denote tb) p w s t with
    | none => intro h; cases h
    | some r => intro h; rw [stepT_spec e]; exact gr n r.1 r.2 s' h
def S0 (w : World) (os : OsState) : SharedT := ⟨(boot_heap w.params).objs.toList.zipIdx.foldl (fun t x => t.ins x.2 x.1) .nil, 11, (boot_heap w.params).life, #[], boot_drawn, boot_toks, os⟩
theorem s0 (w os) : (S0 w os).abs = ⟨boot_heap w.params, #[], boot_drawn, boot_toks, os⟩ := by kernel_rfl
theorem bs (w : World) : ((boot_heap w.params).isNs mainGlobals && (#[] : Array GenState).size == 0, (boot_heap w.params).objs.size, (boot_heap w.params).nsMap mainGlobals "__annotations__") = (true, 11, some (.ref 6)) := by kernel_rfl
abbrev run (p : Program) (N : Nat) (w : World) (os : OsState) := go (Fast.tw6613529449190102663 11 (some (.ref 6))) (Fast.tw10156331382660048174 (Fast.tw11892475500146522536 Fast.tw14364793385576792824) p w) N (S0 w os) (topStub p)
abbrev Is {α : Type} (p : Program) (N : Nat) (w : World) (f : Shared → α) (a : α) : Prop := ∀ os, (run p N w os).map (fun s => f s.abs) = some a
abbrev Ends (p : Program) (w : World) (s : Shared) := staticsOk (importedModules p.main.body) (boot_heap w.params) s.heap && namesBound p s.heap && gensDone s && laidKept (boot_heap w.params) s.heap
theorem left {α : Type} {p q loose Xt N} {Yf : Shared → α} {Ya} (e : opening p = plainProg p.main.scope.names) (hN : Nat.ble 600 N = true) (f : ∀ s, fenceModules? p s = some s)
  (h1 : ∀ w, Is p N w (Ends p w) true) (h2 : ∀ w, Is p N w (Fast.tw4187177175401517315 q loose (importedModules p.main.body) Xt true) (openGood q loose)) (h3 : ∀ w, Is p N w Yf (Ya w)) : LeftO p q loose Xt Yf Ya N := fun w => by
 obtain ⟨⟨hp, gs, d, k, os⟩, e1, e2⟩ := Option.map_eq_some_iff.mp (boot_open e hN f w)
 obtain ⟨rfl, rfl, rfl, rfl⟩ : hp = boot_heap w.params ∧ gs = #[] ∧ d = boot_drawn ∧ k = boot_toks := by simpa using e2
 obtain ⟨z1, z2, z3⟩ : _ ∧ _ ∧ _ := by simpa only [Prod.mk.injEq] using bs w
 obtain ⟨s, g, l1⟩ := Option.map_eq_some_iff.mp (h1 w os)
 have l2 := h2 w os
 have l3 := h3 w os
 rw [g] at l2 l3
 replace l2 := Option.some.inj l2
 rw [← Fast.te4187177175401517315] at l2
 unfold run at g
 rw [← Fast.te6613529449190102663, ← Fast.te10156331382660048174, ← Fast.te11892475500146522536, ← Fast.te14364793385576792824] at g
 have r := gr _ _ _ _ g
 rw [s0] at r
 unfold openEnds
 rw [e1]
 show Option.map _ (topFrom treeTable p w N _) = _
 have t : topFrom treeTable p w N ⟨boot_heap w.params, #[], boot_drawn, boot_toks, os⟩ = some s.abs := by
  unfold topFrom
  dsimp only
  rw [z1, z2, z3, r]
  show (match Ends p w s.abs with | true => _ | false => _) = _
  rw [l1]
 rw [t]
 exact congrArg some (congr (congrArg Prod.mk l2) (Option.some.inj l3))
abbrev pw := PySem.Challenge.pw_partproof_k81_told_and_taken_back
abbrev r := Value.ref
abbrev y := Value.type
abbrev z (x : String) (t : Nat) : Value := .str (.ofString x) t
abbrev n (i : Int) (t : Nat) : Value := .int i t
abbrev J := List (Str × Nat × Value)
def D (P : Params) (k : Nat) (l : J) : Obj := ⟨y "dict", none, .dict (l.map fun x => ⟨PyData.keyHash P x.1, .str x.1 x.2.1, x.2.2⟩).toArray k, #[]⟩
def j (v : Value) (l : J) : J := ([("__name__", 165, v), ("__doc__", 166, .none), ("__package__", 167, .none), ("__loader__", 168, .builtin "__main__.__loader__#opaque"), ("__spec__", 169, .none), ("__annotations__", 170, r 6), ("__builtins__", 171, r 4), ("__file__", 173, z "/claim/cut.py" 172), ("__cached__", 174, .none)] : J) ++ l
def v (x : String) (t : Nat) (w : Value) : Str × Nat × Value := (.ofString x, t, w)
def g (i : Nat) : Stmt := pw.main.body.getD i (.Pass ⟨0, 0, 0, 0⟩)
def G (i j : Nat) : Stmt := match g i with
 | .ClassDef _ _ _ b _ _ _ _ _ _ _ => b.getD j (.Pass ⟨0, 0, 0, 0⟩)
 | s => s
def C (s : Stmt) (q : Str → Str) (a t u : Nat) (l : List Value) : Obj := match s with
 | .FunctionDef x p _ _ _ _ _ _ _ h => ⟨y "code", none, .fields ([.str x t, .str (q x) (t + 1), z "/claim/cut.py" (t + 2), n h.line 0, n p.args.length 0, n 0 0, n 0 0, n 3 0, r a, .bool true, n 181 0, r (a + 1), .none] ++ l ++ [n u 0, n h.line 0, z "/claim/cut.py" (u + 1)]).toArray, #[]⟩
 | _ => default
def F (s : Stmt) (q : Str → Str) (k : Nat) (m v : Value) : Obj := match s with
 | .FunctionDef x p b _ _ _ c _ _ _ => ⟨y "function", none, .func (fnOf x (q x) p b c v .none .none m none (r k) .none), #[]⟩
 | _ => default
def c (i a t u : Nat) : Obj := C (g i) id a t u [r (a + 2), r (a + 3), r (a + 4)]
def b (i a t u : Nat) : Obj := C (g i) id a t u [.none, .none, r (a + 2)]
def f (i k : Nat) (m : Value) (v := Value.none) : Obj := F (g i) id k m v
def t (l : List Value) : Obj := ⟨y "tuple", none, .seq l.toArray 0, #[]⟩
def X (x q : String) (b m : List Value) (k : Addr) (s : List Value) (l : List (Option Value)) : Obj := ⟨y "type", none, .cls { name := .ofString x, bases := b, mro := m, ns := k, qualname := .ofString q, subclasses := s }, l.toArray⟩
def d (P : Params) (a t l : Nat) (m : Value) : Obj := D P 2 [("__module__", t + 7, m), ("__firstlineno__", t + 11, n l (t + 10)), ("__static_attributes__", t + 12, r (a + 7)), ("__doc__", t + 13, .none)]
def E (x : String) (b : Addr) (a t : Nat) (s : List Value := []) : Obj := X x x [r b] ([r (a + 9), r b, y "ValueError", y "Exception", y "BaseException", y "object"]) (a + 8) s [some (r a), none, some (z x t), some (z x (t + 8)), some (.builtin "ValueError.__new__"), some (.bool true)]
def m0 := z "__main__" 164
def m1 := z "partproof.errors" 194
def m2 := z "partproof.fractions" 278
def m3 := z "partproof.terms" 304
def m4 := z "partproof.statements" 442
def m5 := z "partproof.houses" 501
def m6 := z "partproof.names" 564
def m7 := z "law_partproof_k81_told_and_taken_back" 740
def Kf (P : Params) : Frag := (nat_lit 3,D P 66 (j m7 [v "_wall" 193 (r 21),v "PartError" 213 (r 31),v "BadNames" 229 (r 44),v "BadTerm" 245 (r 56),v "BadStatement" 261 (r 68),v "NotTold" 277 (r 80),v "is_whole" 286 (r 89),v "is_fraction" 295 (r 96),v "common_divisor" 303 (r 103),v "DEEPEST" 307 (n 12 306),v "LENGTHS_terms" 329 (r 104),v "word_of" 336 (r 111),v "kind_within" 347 (r 118),v "check_kinds" 359 (r 125),v "kind_of_number" 368 (r 132),v "kind_of_unknown" 378 (r 139),v "kind_of_weigh" 387 (r 146),v "kind_of_plus" 396 (r 153),v "kind_of_call" 408 (r 160),v "kind_of_read" 417 (r 167),v "kind_of_put" 426 (r 174),v "DEEDS" 441 (r 175),v "LENGTHS_statements" 462 (r 176),v "check_statement" 470 (r 183),v "check_within" 480 (r 190),v "check_all" 490 (r 197),v "check_atom" 500 (r 204),v "House" 563 (r 249),v "LETTERS" 567 (z "abcdefghijklmnopqrstuvwxyz" 566),v "LONGEST_NAME" 569 (n 8 568),v "WIDEST_BOUNDS" 571 (n 60 570),v "MOST_VALUES" 573 (n 3600 572),v "MOST_KINDS" 575 (n 3 574),v "is_name" 581 (r 258),v "is_row" 588 (r 265),v "is_kind" 595 (r 272),v "is_list_of_names" 601 (r 277),v "is_bounded" 608 (r 284),v "is_function" 614 (r 289),v "check_wholes" 620 (r 294),v "check_functions" 626 (r 299),v "check_names" 633 (r 306),v "first_parts" 639 (r 311),v "check_unlike" 646 (r 318),v "Names" 739 (r 389),v "_law_cell_at" 749 (r 400),v "_law_stream" 760 (r 407),v "_law_names" 767 (r 414),v "_law_small" 774 (r 421),v "_law_thing" 782 (r 428),v "_law_num" 793 (r 435),v "_law_atom" 802 (r 442),v "_law_statement" 812 (r 449),v "_law_odd" 821 (r 456),v "_law_tell" 831 (r 463),v "_law_back" 841 (r 470),v "law" 859 (r 477)]))::(nat_lit 43,d P 35 214 7 m1)::(nat_lit 44,E "BadNames" 31 35 214)::(nat_lit 55,d P 47 230 9 m1)::(nat_lit 56,E "BadTerm" 31 47 230)::(nat_lit 67,d P 59 246 11 m1)::(nat_lit 68,E "BadStatement" 31 59 246)::(nat_lit 79,d P 71 262 13 m1)::(nat_lit 80,E "NotTold" 31 71 262)::(nat_lit 20,c 0 15 187 191)::(nat_lit 21,f 0 20 m0)::(nat_lit 30,D P 3 [v "__module__" 203 (z "partproof.errors" 194),v "__firstlineno__" 207 (n 5 206),v "__static_attributes__" 208 (r 29),v "__weakref__" 210 (r 32),v "__doc__" 211 .none])::(nat_lit 31,X "PartError" "PartError" [(y "ValueError")] [(r 31),(y "ValueError"),(y "Exception"),(y "BaseException"),(y "object")] 30 [(r 44),(r 56),(r 68),(r 80)] [some (r 22),none,some (z "PartError" 196),some (z "PartError" 204),some (.builtin "ValueError.__new__"),some (.bool true)])::(nat_lit 88,c 8 83 280 284)::(nat_lit 89,f 8 88 m2)::(nat_lit 95,c 9 90 287 293)::(nat_lit 96,f 9 95 m2)::(nat_lit 102,c 10 97 296 301)::(nat_lit 103,f 10 102 m2)::(nat_lit 104,D P 7 [v "number" 308 (n 2 309),v "unknown" 310 (n 2 311),v "weigh" 312 (n 3 313),v "plus" 314 (n 2 315),v "call" 316 (n 3 317),v "read" 318 (n 3 319),v "put" 320 (n 4 321)])::(nat_lit 110,c 14 105 330 334)::(nat_lit 111,f 14 110 m3)::(nat_lit 117,c 15 112 337 345)::(nat_lit 118,f 15 117 m3)::(nat_lit 124,c 16 119 348 357)::(nat_lit 125,f 16 124 m3)::(nat_lit 131,c 17 126 360 366)::(nat_lit 132,f 17 131 m3)::(nat_lit 138,c 18 133 369 376)::(nat_lit 139,f 18 138 m3)::(nat_lit 145,c 19 140 379 385)::(nat_lit 146,f 19 145 m3)::(nat_lit 152,c 20 147 388 394)::(nat_lit 153,f 20 152 m3)::(nat_lit 159,c 21 154 397 406)::(nat_lit 160,f 21 159 m3)::(nat_lit 166,c 22 161 409 415)::(nat_lit 167,f 22 166 m3)::(nat_lit 173,c 23 168 418 424)::(nat_lit 174,f 23 173 m3)::(nat_lit 175,D P 7 [v "number" 427 (r 132),v "unknown" 428 (r 139),v "weigh" 429 (r 146),v "plus" 430 (r 153),v "call" 431 (r 160),v "read" 432 (r 167),v "put" 433 (r 174)])::(nat_lit 176,D P 6 [v "atmost" 444 (n 3 445),v "below" 446 (n 3 447),v "same" 448 (n 3 449),v "not" 450 (n 2 451),v "and" 452 (n 2 453),v "or" 454 (n 2 455)])::(nat_lit 182,c 27 177 463 468)::(nat_lit 183,f 27 182 m4)::(nat_lit 189,c 28 184 471 478)::(nat_lit 190,f 28 189 m4)::(nat_lit 196,c 29 191 481 488)::(nat_lit 197,f 29 196 m4)::(nat_lit 203,c 30 198 491 498)::(nat_lit 204,f 30 203 m4)::(nat_lit 217,C (G 32 0) (fun _ => "House.__init__") 212 515 520 [r 214,r 215,r 216])::(nat_lit 218,F (G 32 0) (fun _ => "House.__init__") 217 m5 .none)::(nat_lit 224,C (G 32 1) (fun _ => "House.tell") 219 523 528 [r 221,r 222,r 223])::(nat_lit 225,F (G 32 1) (fun _ => "House.tell") 224 m5 .none)::(nat_lit 231,C (G 32 2) (fun _ => "House.back") 226 531 536 [r 228,r 229,r 230])::(nat_lit 232,F (G 32 2) (fun _ => "House.back") 231 m5 .none)::(nat_lit 238,C (G 32 3) (fun _ => "House.told") 233 539 543 [r 235,r 236,r 237])::(nat_lit 239,F (G 32 3) (fun _ => "House.told") 238 m5 .none)::(nat_lit 245,C (G 32 4) (fun _ => "House.answer") 240 546 550 [r 242,r 243,r 244])::(nat_lit 246,F (G 32 4) (fun _ => "House.answer") 245 m5 .none)::(nat_lit 248,D P 4 [v "__module__" 510 (z "partproof.houses" 501),v "__firstlineno__" 514 (n 111 513),v "__init__" 522 (r 218),v "tell" 530 (r 225),v "back" 538 (r 232),v "told" 545 (r 239),v "answer" 552 (r 246),v "__static_attributes__" 556 (r 247),v "__dict__" 558 (r 250),v "__weakref__" 560 (r 251),v "__doc__" 561 .none])::(nat_lit 249,X "House" "House" [(y "object")] [(r 249),(y "object")] 248 [] [none,none,some (z "House" 503),some (z "House" 511),some (.builtin "object.__new__"),some (.bool true)])::(nat_lit 257,b 39 254 576 579)::(nat_lit 258,f 39 257 m6)::(nat_lit 264,c 40 259 582 586)::(nat_lit 265,f 40 264 m6)::(nat_lit 271,c 41 266 589 593)::(nat_lit 272,f 41 271 m6)::(nat_lit 276,b 42 273 596 599)::(nat_lit 277,f 42 276 m6)::(nat_lit 283,c 43 278 602 606)::(nat_lit 284,f 43 283 m6)::(nat_lit 288,b 44 285 609 612)::(nat_lit 289,f 44 288 m6)::(nat_lit 293,b 45 290 615 618)::(nat_lit 294,f 45 293 m6)::(nat_lit 298,b 46 295 621 624)::(nat_lit 299,f 46 298 m6)::(nat_lit 305,c 47 300 627 631)::(nat_lit 306,f 47 305 m6)::(nat_lit 310,b 48 307 634 637)::(nat_lit 311,f 48 310 m6)::(nat_lit 317,c 49 312 640 644)::(nat_lit 318,f 49 317 m6)::(nat_lit 329,C (G 50 0) (fun _ => "Names.__init__") 326 659 662 [.none,.none,r 328])::(nat_lit 330,F (G 50 0) (fun _ => "Names.__init__") 329 m6 .none)::(nat_lit 336,C (G 50 1) (fun _ => "Names.all_numbers") 331 665 669 [r 333,r 334,r 335])::(nat_lit 337,F (G 50 1) (fun _ => "Names.all_numbers") 336 m6 .none)::(nat_lit 343,C (G 50 2) (fun _ => "Names.all_wholes") 338 672 676 [r 340,r 341,r 342])::(nat_lit 344,F (G 50 2) (fun _ => "Names.all_wholes") 343 m6 .none)::(nat_lit 350,C (G 50 3) (fun _ => "Names.all_things") 345 679 683 [r 347,r 348,r 349])::(nat_lit 351,F (G 50 3) (fun _ => "Names.all_things") 350 m6 .none)::(nat_lit 357,C (G 50 4) (fun _ => "Names.all_functions") 352 686 690 [r 354,r 355,r 356])::(nat_lit 358,F (G 50 4) (fun _ => "Names.all_functions") 357 m6 .none)::(nat_lit 364,C (G 50 5) (fun _ => "Names.all_arrays") 359 693 697 [r 361,r 362,r 363])::(nat_lit 365,F (G 50 5) (fun _ => "Names.all_arrays") 364 m6 .none)::(nat_lit 371,C (G 50 6) (fun _ => "Names.kind") 366 700 705 [r 368,r 369,r 370])::(nat_lit 372,F (G 50 6) (fun _ => "Names.kind") 371 m6 .none)::(nat_lit 378,C (G 50 7) (fun _ => "Names.bounds") 373 708 713 [r 375,r 376,r 377])::(nat_lit 379,F (G 50 7) (fun _ => "Names.bounds") 378 m6 .none)::(nat_lit 385,C (G 50 8) (fun _ => "Names.function") 380 716 721 [r 382,r 383,r 384])::(nat_lit 386,F (G 50 8) (fun _ => "Names.function") 385 m6 .none)::(nat_lit 388,D P 4 [v "__module__" 654 (z "partproof.names" 564),v "__firstlineno__" 658 (n 177 657),v "__init__" 664 (r 330),v "all_numbers" 671 (r 337),v "all_wholes" 678 (r 344),v "all_things" 685 (r 351),v "all_functions" 692 (r 358),v "all_arrays" 699 (r 365),v "kind" 707 (r 372),v "bounds" 715 (r 379),v "function" 723 (r 386),v "__static_attributes__" 732 (r 387),v "__dict__" 734 (r 390),v "__weakref__" 736 (r 391),v "__doc__" 737 .none])::(nat_lit 389,X "Names" "Names" [(y "object")] [(r 389),(y "object")] 388 [] [none,none,some (z "Names" 647),some (z "Names" 655),some (.builtin "object.__new__"),some (.bool true)])::(nat_lit 406,c 53 401 750 758)::(nat_lit 407,f 53 406 m7)::(nat_lit 413,c 54 408 761 765)::(nat_lit 414,f 54 413 m7)::(nat_lit 420,c 55 415 768 772)::(nat_lit 421,f 55 420 m7)::(nat_lit 427,c 56 422 775 780)::(nat_lit 428,f 56 427 m7)::(nat_lit 434,c 57 429 783 791)::(nat_lit 435,f 57 434 m7)::(nat_lit 441,c 58 436 794 800)::(nat_lit 442,f 58 441 m7)::(nat_lit 448,c 59 443 803 810)::(nat_lit 449,f 59 448 m7)::(nat_lit 455,c 60 450 813 819)::(nat_lit 456,f 60 455 m7)::(nat_lit 462,c 61 457 822 829)::(nat_lit 463,f 61 462 m7)::(nat_lit 469,c 62 464 832 839)::(nat_lit 470,f 62 469 m7)::(nat_lit 476,c 63 471 842 857)::(nat_lit 477,f 63 476 m7)::[]
abbrev as : List Addr := [3,43,44,55,56,67,68,79,80,20,21,30,31,88,89,95,96,102,103,104,110,111,117,118,124,125,131,132,138,139,145,146,152,153,159,160,166,167,173,174,175,176,182,183,189,190,196,197,203,204,217,218,224,225,231,232,238,239,245,246,248,249,257,258,264,265,271,272,276,277,283,284,288,289,293,294,298,299,305,306,310,311,317,318,329,330,336,337,343,344,350,351,357,358,364,365,371,372,378,379,385,386,388,389,406,407,413,414,420,421,427,428,434,435,441,442,448,449,455,456,462,463,469,470,476,477]
def q : Program := view pw ((List.range 64).filter fun i => ![1,7,11,25,31,33,51].contains i)
abbrev lo : List Str := ["LENGTHS_terms","DEEDS","LENGTHS_statements"]
abbrev H : Hook := kHook Kf as fun _ => by kernel_rfl
abbrev Xt (s : Shared) := xlAt q [] s && recOk (RowW.records PySem.Challenge.rw_partproof_k81_told_and_taken_back.row.toRowW) s
abbrev k1 (w : World) := Is pw 3626 w (Ends pw w) true
abbrev k2 (w : World) := Is pw 3626 w (Fast.tw4187177175401517315 q lo (importedModules pw.main.body) Xt true) (openGood q lo)
abbrev k3 (w : World) := Is pw 3626 w H.obs (H.val w)
abbrev W (b : Bool) (w : World) := w.withFollow "special-get-raises" b
theorem k1t (w : World) : k1 (W true w) := fun _ => by kernel_rfl
theorem k1f (w : World) : k1 (W false w) := fun _ => by kernel_rfl
theorem k2t (w : World) : k2 (W true w) := fun _ => by kernel_rfl
theorem k2f (w : World) : k2 (W false w) := fun _ => by kernel_rfl
theorem k3t (w : World) : k3 (W true w) := fun _ => by kernel_rfl
theorem k3f (w : World) : k3 (W false w) := fun _ => by kernel_rfl
theorem hl : LeftO pw q lo Xt H.obs H.val 3626 := left (by kernel_rfl) (by decide) (fun s => by kernel_rfl) (byRow2 (P := k1) "special-get-raises" k1f k1t) (byRow2 (P := k2) "special-get-raises" k2f k2t) (byRow2 (P := k3) "special-get-raises" k3f k3t)
end HD
end
noncomputable section
namespace L2
open PySem PySem.Spec PyProof.Rows
abbrev Key := Sum Int Str
def ig : Key → Value → Bool
 | .inl k, v => Value.isInt k v
 | .inr x, v => Value.isStrOf x v
def Vd (w : World) : Key → Int
 | .inl k => hashInt k
 | .inr x => hashStr w x
theorem fg : ∀ {k : Key} {v : Value}, ig k v = true → (∃ i t, k = Sum.inl i ∧ v = Value.int i t) ∨ (∃ x t, k = Sum.inr x ∧ v = Value.str x t)
 | .inl i, v, h => by
  obtain ⟨t, e⟩ := Value.isInt_shape (k := i) (v := v) h
  exact .inl ⟨i, t, rfl, e⟩
 | .inr x, v, h => by
  obtain ⟨t, e⟩ := Value.isStrOf_shape (x := x) (v := v) h
  exact .inr ⟨x, t, rfl, e⟩
theorem ve (i : Int) (t : Tok) : ig (.inl i) (.int i t) = true := by simp [ig, Value.isInt]
theorem Ve (x : Str) (t : Tok) : ig (.inr x) (.str x t) = true := by simp [ig, Value.isStrOf]
theorem vf (a b : Int) : decide ((Sum.inl a : Key) = Sum.inl b) = (a == b) := by
 by_cases e : a = b
 · subst e; simp
 · have h : ¬ (Sum.inl a : Key) = Sum.inl b := fun q => e (Sum.inl.inj q)
   rw [decide_eq_false h]
   exact (beq_eq_false_iff_ne.mpr e).symm
theorem Vf (a b : Str) : decide ((Sum.inr a : Key) = Sum.inr b) = decide (a = b) := by
 by_cases e : a = b
 · subst e; simp
 · have h : ¬ (Sum.inr a : Key) = Sum.inr b := fun q => e (Sum.inr.inj q)
   rw [decide_eq_false h, decide_eq_false e]
theorem vg (a : Int) (b : Str) : decide ((Sum.inl a : Key) = Sum.inr b) = false := decide_eq_false (fun q => nomatch q)
theorem Vg (a : Str) (b : Int) : decide ((Sum.inr a : Key) = Sum.inl b) = false := decide_eq_false (fun q => nomatch q)
def Cn (prog : Program) (w : World) : PySem.KeyKind prog w Key where
 is := ig
 hash := Vd w
 inj := fun v a b ha hb => by
  rcases fg ha with ⟨i, t, rfl, rfl⟩ | ⟨x, t, rfl, rfl⟩
  · rcases fg hb with ⟨j, u, rfl, e⟩ | ⟨y, u, rfl, e⟩
    · injection e with e1 _; rw [e1]
    · exact nomatch e
  · rcases fg hb with ⟨j, u, rfl, e⟩ | ⟨y, u, rfl, e⟩
    · exact nomatch e
    · injection e with e1 _; rw [e1]
 byValue := fun k v h => by
  rcases fg h with ⟨i, t, rfl, rfl⟩ | ⟨x, t, rfl, rfl⟩ <;> rfl
 pyHash := fun hv h => by
  rcases fg hv with ⟨i, t, rfl, rfl⟩ | ⟨x, t, rfl, rfl⟩
  · exact wpAny_pyHash_int h
  · exact wpAny_pyHash_str h
 eqBool := fun hu hv h => by
  rcases fg hu with ⟨i, t, rfl, rfl⟩ | ⟨x, t, rfl, rfl⟩
  · rcases fg hv with ⟨j, u, rfl, rfl⟩ | ⟨y, u, rfl, rfl⟩
    · rw [vf] at h; exact wpAny_eqBool_int h
    · rw [vg] at h; exact SeqAt.EqAt.int_str i t y u _ _ _ _ h
  · rcases fg hv with ⟨j, u, rfl, rfl⟩ | ⟨y, u, rfl, rfl⟩
    · rw [Vg] at h; exact SeqAt.EqAt.str_int x t j u _ _ _ _ h
    · rw [Vf] at h; exact wpAny_eqBool_str h
 «strs» := fun k x t v h => by
  rcases fg h with ⟨i, u, rfl, e⟩ | ⟨y, u, rfl, e⟩
  · exact nomatch e
  · injection e with e1 _
    subst e1
    cases v <;> rfl
theorem vh (prog : Program) (w : World) (i : Int) (t : Tok) : (Cn prog w).is (.inl i) (.int i t) = true := ve i t
theorem Vh (prog : Program) (w : World) (x : Str) (t : Tok) : (Cn prog w).is (.inr x) (.str x t) = true := Ve x t
inductive V where
 | non | bl (b : Bool) | int (i : Int) | str (x : Str) | byt (b : Array UInt8) | flt (b : UInt64) | ref (a : Addr) | ty (n : String)
 deriving DecidableEq
def RelV : V → Value → Prop
 | .non, u => u = Value.none
 | .bl b, u => u = Value.bool b
 | .int i, u => ∃ t, u = Value.int i t
 | .str x, u => ∃ t, u = Value.str x t
 | .byt b, u => ∃ t, u = Value.bytes b t
 | .flt b, u => ∃ t, u = Value.float b t
 | .ref a, u => u = Value.ref a
 | .ty n, u => u = Value.type n
abbrev Vals : List V → List Value → Prop := Paired RelV
theorem Vals.length {xs : List V} {us : List Value} (r : Vals xs us) : xs.length = us.length := Paired.length r
theorem Vals.get : ∀ {xs : List V} {us : List Value} {i : Nat} {x : V}, Vals xs us → xs[i]? = some x → ∃ u, us[i]? = some u ∧ RelV x u
 | _, _, _, _, .nil, e => by simp at e
 | _, _, 0, _, .cons r _, e => by simp at e; subst e; exact ⟨_, rfl, r⟩
 | _, _, i + 1, x, .cons _ t, e => by
  obtain ⟨u, h1, h2⟩ := Vals.get (i := i) (x := x) t (by simpa using e)
  exact ⟨u, by simpa using h1, h2⟩
theorem Vals.append : ∀ {xs ys : List V} {us ws : List Value}, Vals xs us → Vals ys ws → Vals (xs ++ ys) (us ++ ws)
 | _, _, _, _, .nil, s => s
 | _, _, _, _, .cons r t, s => .cons r (Vals.append t s)
theorem Vals.take : ∀ {xs : List V} {us : List Value} (n : Nat), Vals xs us → Vals (xs.take n) (us.take n)
 | _, _, 0, _ => .nil
 | _, _, _ + 1, .nil => .nil
 | _, _, n + 1, .cons r t => .cons r (Vals.take n t)
theorem Vals.drop : ∀ {xs : List V} {us : List Value} (n : Nat), Vals xs us → Vals (xs.drop n) (us.drop n)
 | _, _, 0, r => r
 | _, _, _ + 1, .nil => .nil
 | _, _, n + 1, .cons _ t => Vals.drop n t
def Dh : Option V → Option Value → Prop
 | some v, some u => RelV v u
 | none, none => True
 | _, _ => False
def KV {κ : Type} : List (κ × V) → List (κ × Value) → Prop := Paired fun (p : κ × V) (q : κ × Value) => p.1 = q.1 ∧ RelV p.2 q.2
def kV : Key → V
 | .inl i => .int i
 | .inr x => .str x
inductive HO where
 | lst (xs : List V)
 | tup (xs : List V)
 | dK (kvs : List (Key × V)) | dT (kvs : List (List Key × V))
 | set (S : Int → Bool) (n : Nat)
 | ins (C dx : Addr) (fs : List (Str × V))
 | own (x : Addr)
 | xd (fs : List (Str × V))
 | met (f x : Addr)
 | rng (lo hi : Int)
 | frz (o : Obj) (u : HO)
 | tbl (ps : Array Value)
 | ext (φ : Heap → Prop)
abbrev Hp := Addr → Option HO
def upd (H : Hp) (a : Addr) (o : HO) : Hp := fun b => if b = a then some o else H b
theorem Cf : upd H a o a = some o := by unfold upd; rw [if_pos rfl]
theorem Bf (h : b ≠ a) : upd H a o b = H b := by unfold upd; rw [if_neg h]
theorem jy {H : Hp} {a b : Addr} {o u : HO} (h : H a = some o) (h' : H b = some u) (d : o ≠ u) : a ≠ b := by
 intro e; subst e; rw [h] at h'; exact d (Option.some.inj h')
theorem Ig {H : Hp} {a b : Addr} {o : HO} (h : H a = some o) (h' : H b = none) : a ≠ b := by
 intro e; subst e; rw [h] at h'; cases h'
section
variable (P : Program) (w : World)
def bj (H : Hp) (h : Heap) (a : Addr) : HO → Prop
 | .lst xs => xs.length ≤ sizeLine ∧ ∃ (its : List Value) (n : Nat), Vals xs its ∧ h.get? a = some { cls := .type "list", data := .seq its.toArray n }
 | .tup xs => xs.length ≤ sizeLine ∧ ∃ its : List Value, Vals xs its ∧ IsTup h a its.toArray
 | .dK kvs => kvs.length ≤ sizeLine ∧ (a == sysModules) = false ∧ ∃ vs, KV kvs vs ∧ h.DictOf (Cn P w) a vs
 | .dT kvs => kvs.length ≤ sizeLine ∧ (a == sysModules) = false ∧ ∃ xs : List (List Key × Addr × Value),
  Paired (fun (p : List Key × V) (q : List Key × Addr × Value) => p.1 = q.1 ∧ H q.2.1 = some (.tup (p.1.map kV)) ∧ RelV p.2 q.2.2) kvs xs ∧
  ∃ o es ep, h.get? a = some o ∧ o.ExactDict ∧ o.data = .dict es ep ∧ es.toList = xs.map (entryOfKey (tupleKind (Cn P w))) ∧ (xs.map (·.1)).Nodup
 | .set S n => h.SetOf (intKind P w) a S n
 | .ins C dx fs => H dx = some (.own a) ∧ fs.length ≤ 1000 ∧ dx ≠ a ∧ h.get? a = some (W.instObj C dx) ∧
  ∃ mA, h.Ns1 dx mA ∧ (∀ f, Dh (fs.lookup f) (mA f)) ∧ PySem.Within mA (fs.map (·.1))
 | .own _ => ∃ o, h.get? a = some o
 | .xd fs => ∃ mA, h.Ns1 a mA ∧ ∀ f, Dh (fs.lookup f) (mA f)
 | .rng lo hi => ∃ t u v, h.get? a = some { cls := .type "range", data := .fields #[.int lo t, .int hi u, .int 1 v] }
 | .frz o u => h.get? a = some o ∧ bj H h a u
 | .tbl ps => h.get? a = some { cls := .none, data := .fields ps }
 | .met f x => h.get? a = some (W.methodObj (.ref f) (.ref x))
 | .ext φ => φ h ∧ (∃ o, h.get? a = some o) ∧ ∀ h1 h2 : Heap, φ h1 → (∀ o, h1.get? a = some o → h2.get? a = some o) → φ h2
def HOk (H : Hp) (h : Heap) : Prop := ∀ a o, H a = some o → bj P w H h a o
end
section
variable {P : Program} {w : World} {H H' : Hp} {h h' : Heap} {a : Addr} {o : HO}
theorem bj.lt (x : bj P w H h a o) : a < h.objs.size := by
 cases o with
 | lst xs => obtain ⟨_, _, _, _, e⟩ := x; exact Heap.lt_size e
 | tup xs => obtain ⟨_, _, _, p⟩ := x; exact p.lt
 | dK kvs => obtain ⟨_, _, _, _, o, _, _, e, _⟩ := x; exact Heap.lt_size e
 | dT kvs => obtain ⟨_, _, _, _, o, _, _, e, _⟩ := x; exact Heap.lt_size e
 | set S n => obtain ⟨o, _, _, _, e, _⟩ := x; exact Heap.lt_size e
 | ins C dx fs => obtain ⟨_, _, _, e, _⟩ := x; exact Heap.lt_size e
 | own y => obtain ⟨_, e⟩ := x; exact Heap.lt_size e
 | xd fs => obtain ⟨_, ⟨_, _, _, e, _⟩, _⟩ := x; exact Heap.lt_size e
 | rng lo hi => obtain ⟨_, _, _, e⟩ := x; exact Heap.lt_size e
 | frz ob u => obtain ⟨e, _⟩ := x; exact Heap.lt_size e
 | tbl ps => exact Heap.lt_size (show h.get? a = some _ from x)
 | met f y => exact Heap.lt_size (show h.get? a = some _ from x)
 | ext φ => obtain ⟨_, ⟨_, e⟩, _⟩ := x; exact Heap.lt_size e
theorem Paired.mapP {α β : Type} {F G : α → β → Prop} : ∀ {l₁ : List α} {l₂ : List β}, Paired F l₁ l₂ → (∀ a b, F a b → G a b) → Paired G l₁ l₂
 | _, _, .nil, _ => .nil
 | _, _, .cons r t, f => .cons (f _ _ r) (Paired.mapP t f)
theorem bj.stay (x : bj P w H h a o) (k : ∀ b u, (b = a ∨ H b = some (.own a)) → h.get? b = some u → h'.get? b = some u)
 (ho : ∀ b, H b = some (.own a) → H' b = some (.own a)) (ht : ∀ b xs, H b = some (.tup xs) → H' b = some (.tup xs)) : bj P w H' h' a o := by
 induction o with
 | lst xs => obtain ⟨z, its, n, r, e⟩ := x; exact ⟨z, its, n, r, k _ _ (.inl rfl) e⟩
 | tup xs => obtain ⟨z, its, r, ob, e, c⟩ := x; exact ⟨z, its, r, ob, k _ _ (.inl rfl) e, c⟩
 | dK kvs => obtain ⟨z, y, vs, r, ob, es, ep, e, c⟩ := x; exact ⟨z, y, vs, r, ob, es, ep, k _ _ (.inl rfl) e, c⟩
 | dT kvs =>
  obtain ⟨z, y, xs, r, ob, es, ep, e, c⟩ := x
  exact ⟨z, y, xs, Paired.mapP r fun p q z => ⟨z.1, ht _ _ z.2.1, z.2.2⟩, ob, es, ep, k _ _ (.inl rfl) e, c⟩
 | set S n => obtain ⟨ob, es, ep, t, e, c⟩ := x; exact ⟨ob, es, ep, t, k _ _ (.inl rfl) e, c⟩
 | ins C dx fs =>
  obtain ⟨d, z, ne, e, mA, ⟨od, es, ep, e2, c⟩, r⟩ := x
  exact ⟨ho _ d, z, ne, k _ _ (.inl rfl) e, mA, ⟨od, es, ep, k _ _ (.inr d) e2, c⟩, r⟩
 | own y => obtain ⟨ob, e⟩ := x; exact ⟨ob, k _ _ (.inl rfl) e⟩
 | xd fs => obtain ⟨mA, ⟨od, es, ep, e, c⟩, r⟩ := x; exact ⟨mA, ⟨od, es, ep, k _ _ (.inl rfl) e, c⟩, r⟩
 | rng lo hi => obtain ⟨t, u, v, e⟩ := x; exact ⟨t, u, v, k _ _ (.inl rfl) e⟩
 | frz ob u ih => obtain ⟨e, q⟩ := x; exact ⟨k _ _ (.inl rfl) e, ih q⟩
 | tbl ps =>
  have e : h.get? a = some { cls := .none, data := .fields ps } := x
  show h'.get? a = some { cls := .none, data := .fields ps }
  exact k a _ (.inl rfl) e
 | met f y =>
  have e : h.get? a = some (W.methodObj (.ref f) (.ref y)) := x
  show h'.get? a = some (W.methodObj (.ref f) (.ref y))
  exact k a _ (.inl rfl) e
 | ext φ => obtain ⟨p, ⟨o, e⟩, st⟩ := x; exact ⟨st _ _ p fun o q => k _ _ (.inl rfl) q, ⟨o, k _ _ (.inl rfl) e⟩, st⟩
theorem HOk.lt (x : HOk P w H h) (e : H a = some o) : a < h.objs.size := (x a o e).lt
theorem HOk.fresh (x : HOk P w H h) (e : h.objs.size ≤ a) : H a = none := by
 cases q : H a with
 | none => rfl
 | some u => exact absurd (Nat.lt_of_lt_of_le (x.lt q) e) (Nat.lt_irrefl _)
theorem HOk.kept (x : HOk P w H h) (k : ∀ b u, h.get? b = some u → h'.get? b = some u) : HOk P w H h' := fun a o e =>
 (x a o e).stay (fun b u _ q => k b u q) (fun _ q => q) fun _ _ q => q
theorem HOk.laid (x : HOk P w H h) (k : ∀ b u, h.get? b = some u → h'.get? b = some u) (hp : h.objs.size ≤ a) (new : bj P w (upd H a o) h' a o) : HOk P w (upd H a o) h' := fun b u e => by
 have hn := x.fresh hp
 by_cases hb : b = a
 · subst hb; rw [Cf] at e; cases e; exact new
 · rw [Bf hb] at e
   exact (x b u e).stay (fun c v _ q => k c v q) (fun c q => by rw [Bf (Ig q hn)]; exact q) fun c xs q => by rw [Bf (Ig q hn)]; exact q
end
def Rd (H : Hp) (a : Addr) (u : HO) : Prop := H a = some u ∨ ∃ o, H a = some (.frz o u)
theorem Rd.ok (r : Rd H a u) (x : HOk P w H h) : bj P w H h a u := by
 rcases r with r | ⟨o, r⟩
 · exact x a u r
 · obtain ⟨_, q⟩ := x a _ r
   exact q
def Mut : Option HO → Prop
 | some (.lst _) => True
 | some (.dK _) => True
 | some (.dT _) => True
 | some (.set _ _) => True
 | some (.ins _ _ _) => True
 | some (.ext _) => True
 | _ => False
section
variable {P : Program} {w : World} {H : Hp} {h h' : Heap} {x e : Addr} {o' : HO}
theorem HOk.write (ok : HOk P w H h) (mu : Mut (H x)) (he : e = x ∨ H e = some (.own x)) (k : ∀ b u, b ≠ e → h.get? b = some u → h'.get? b = some u) (heo : ∃ u, h'.get? e = some u)
 (new : bj P w (upd H x o') h' x o') : HOk P w (upd H x o') h' := fun b u q => by
 have nown : ∀ c y, H c = some (.own y) → c ≠ x := fun c y r z => by subst z; rw [r] at mu; exact mu
 have ntup : ∀ c xs, H c = some (.tup xs) → c ≠ x := fun c xs r z => by subst z; rw [r] at mu; exact mu
 by_cases hb : b = x
 · subst hb; rw [Cf] at q; cases q; exact new
 · rw [Bf hb] at q
   by_cases hbe : b = e
   · have q' : H b = some (.own x) := by
      rcases he with z | z
      · exact absurd (hbe.trans z) hb
      · rw [hbe]; exact z
     rw [q] at q'; cases q'
     obtain ⟨v, hv⟩ := heo
     exact ⟨v, by rw [hbe]; exact hv⟩
   · refine (ok b u q).stay (fun c v hc r => k c v ?_ r) (fun c r => by rw [Bf (nown c b r)]; exact r) fun c xs r => by rw [Bf (ntup c xs r)]; exact r
     rcases hc with rfl | hc
     · exact hbe
     · rintro rfl
       rcases he with z | z
       · exact nown c b hc z
       · rw [hc] at z; cases z; exact hb rfl
end
structure Un (fs ex : List Addr) (H H' : Hp) (h h' : Heap) : Prop where
 keep : ∀ b o, h.get? b = some o → H b = none → b ∉ fs → b ∉ ex → h'.get? b = some o
 slot : ∀ b o, h.get? b = some o → H b = none → b ∈ fs → b ∉ ex → ∃ sl, h'.get? b = some { o with slots := sl }
 free : ∀ b o, h.get? b = some o → H b = none → b ∉ ex → H' b = none
 there : ∀ b o, h.get? b = some o → b ∉ ex → ∃ o', h'.get? b = some o'
 tups : ∀ b xs, H b = some (.tup xs) → H' b = some (.tup xs)
 frzs : ∀ b o u, H b = some (.frz o u) → H' b = some (.frz o u)
 tbls : ∀ b ps, H b = some (.tbl ps) → ∃ more, H' b = some (.tbl (ps ++ more))
section
variable {fs fs' ex ex' : List Addr} {H H1 H2 : Hp} {h h1 h2 h' : Heap} {a x e : Addr} {o : HO}
theorem Un.any (u : Un fs ex H H1 h h1) (q : h.get? b = some ob) (n : H b = none) (hx : b ∉ ex) : ∃ sl, h1.get? b = some { ob with slots := sl } := by
 by_cases hb : b ∈ fs
 · exact u.slot b ob q n hb hx
 · exact ⟨ob.slots, u.keep b ob q n hb hx⟩
theorem Un.kept (k : ∀ b u, h.get? b = some u → h'.get? b = some u) : Un fs ex H H h h' :=
 ⟨fun b ob q _ _ _ => k b ob q, fun b ob q _ _ _ => ⟨ob.slots, k b ob q⟩, fun _ _ _ n _ => n, fun b ob q _ => ⟨ob, k b ob q⟩, fun _ _ q => q, fun _ _ _ q => q, fun _ ps q => ⟨#[], by rw [q]; simp⟩⟩
theorem Un.refl : Un fs ex H H h h := Un.kept fun _ _ q => q
theorem Un.laid (k : ∀ b u, h.get? b = some u → h'.get? b = some u) (hp : h.objs.size ≤ a) (hn : H a = none) : Un fs ex H (upd H a o) h h' where
 keep := fun b u q _ _ _ => k b u q
 slot := fun b u q _ _ _ => ⟨u.slots, k b u q⟩
 free := fun b u q n _ => by rw [Bf (Nat.ne_of_lt (Nat.lt_of_lt_of_le (Heap.lt_size q) hp))]; exact n
 there := fun b u q _ => ⟨u, k b u q⟩
 tups := fun b xs q => by rw [Bf (Ig q hn)]; exact q
 frzs := fun b u xs q => by rw [Bf (Ig q hn)]; exact q
 tbls := fun b ps q => ⟨#[], by rw [Bf (Ig q hn), q]; simp⟩
theorem Un.write (mu : Mut (H x)) (he : e = x ∨ H e = some (.own x)) (k : ∀ b u, b ≠ e → h.get? b = some u → h'.get? b = some u) (heo : ∃ u, h'.get? e = some u) : Un fs ex H (upd H x o) h h' := by
 have hx : ∀ b, H b = none → b ≠ x := fun b n z => by subst z; rw [n] at mu; exact mu
 have hb : ∀ b, H b = none → b ≠ e := fun b n z => by
  subst z
  rcases he with r | r
  · exact hx b n r
  · rw [n] at r; cases r
 have hm : ∀ b u, H b = some u → ¬ Mut (some u) → b ≠ x := fun b u q nm z => by subst z; rw [q] at mu; exact nm mu
 refine ⟨fun b u q n _ _ => k b u (hb b n) q, fun b u q n _ _ => ⟨u.slots, k b u (hb b n) q⟩, fun b u q n _ => by rw [Bf (hx b n)]; exact n, fun b u q _ => ?_,
  fun b xs q => by rw [Bf (hm b _ q fun z => z)]; exact q, fun b u xs q => by rw [Bf (hm b _ q fun z => z)]; exact q, fun b ps q => ⟨#[], by rw [Bf (hm b _ q fun z => z), q]; simp⟩⟩
 by_cases hbe : b = e
 · subst hbe; exact heo
 · exact ⟨u, k b u hbe q⟩
end
def trk (h : Heap) (H : Hp) : List Addr := (List.range h.objs.size).filter fun a => (H a).isSome
def Fg (h : Heap) (H : Hp) : Heap := W.hideAll h (trk h H)
theorem vi (h : Heap) (H : Hp) : (Fg h H).objs.size = h.objs.size := W.hideAll_size _ _
theorem Vi (e : h.get? b = some o) (n : H b = none) : (Fg h H).get? b = some o :=
 W.hideAll_get _ e fun hm => by
  have q : (H b).isSome = true := (List.mem_filter.mp hm).2
  rw [n] at q; simp at q
theorem vj (e : (Fg h H).get? b = some o) : h.get? b = some o ∧ H b = none := by
 have e' : h.get? b = some o := W.of_hideAll (trk h H) e
 refine ⟨e', ?_⟩
 cases q : H b with
 | none => rfl
 | some x =>
  have hm : b ∈ trk h H := List.mem_filter.mpr ⟨List.mem_range.mpr (Heap.lt_size e'), by simp [q]⟩
  have z : (Fg h H).get? b = none := W.hideAll_none (trk h H) hm
  rw [z] at e; cases e
structure Mod (K : W.Frag) (mg : Str → Option Value) (base : Heap) : Prop where
 kin : K.In base
 glob : base.Ns mainGlobals mg
 blt : ∃ mb, base.Ns builtinsNs mb ∧ ∀ x : Str, x ≠ "__name__" → mb x = bootBuiltins x
 nolimit : base.NoLimit
structure Cx where
 prog : Program
 w : World
 K : W.Frag
 mg : Str → Option Value
 base : Heap
 A : Around
 N : List Str
 s₀ : Shared
 H₀ : Hp
 env : Env
 outer : List Env
 stack : List Env
 ex : List Addr
 fn : Str → Bool
 calm : Bool
 pn : List (Addr × Obj)
 xe : Value → Shared → Prop
def frs (l : List Env) : List Addr := l.filterMap (·.frame)
abbrev Cx.fs (X : Cx) : List Addr := frs X.outer
def Vis (sc : Scope) (x : Str) : Prop := sc.names.lookup x = some .local ∨ sc.names.lookup x = some .cell ∨ sc.names.lookup x = some .free
def Loc (sc : Scope) (x : Str) : Prop := sc.names.lookup x = some .local ∨ sc.names.lookup x = some .cell
def Look (env : Env) (h : Heap) (m : Str → Option Value) (x : Str) (u : Value) : Prop :=
 (env.kindOf x = some .local ∧ m x = some u) ∨ ((env.kindOf x = some .cell ∨ env.kindOf x = some .free) ∧ ∃ c, env.cells.lookup x = some c ∧ h.IsCell c (some u))
structure Cx.Ok (X : Cx) : Prop where
 mod : Mod X.K X.mg X.base
 kind : X.env.scope.kind = .function
 glob : X.env.globals = mainGlobals
 blt : X.env.builtins = builtinsNs
 above : X.s₀.heap.objs.size ≤ X.env.locals
 inj : ∀ x y c, X.env.cells.lookup x = some c → X.env.cells.lookup y = some c → x = y
 has : ∀ x, (X.env.kindOf x = some .cell ∨ X.env.kindOf x = some .free) → ∃ c, X.env.cells.lookup x = some c
 cab : ∀ x c, X.fn x = true → X.env.cells.lookup x = some c → X.s₀.heap.objs.size ≤ c
 hd : X.calm = true → X.A.handled = none
 frames : X.A.frames = some X.stack
 stk : X.stack = X.outer ∨ (X.stack = X.env :: X.outer ∧ X.env.frame = some X.env.locals)
 exf : ∀ b ∈ X.ex, b ≠ X.env.locals ∧ ∀ x c, X.env.cells.lookup x = some c → c ≠ b
 bs : ∀ b o, X.base.get? b = some o → X.s₀.heap.get? b = some o ∧ X.H₀ b = none
 bsz : X.base.objs.size ≤ X.s₀.heap.objs.size
 noex : ∀ b o, X.base.get? b = some o → b ∉ X.ex
 exfs : ∀ b ∈ X.ex, b ∉ X.fs
 funs : X.s₀.heap.FunFrames X.base X.outer
 frf : ∀ b ∈ X.fs, X.H₀ b = none
structure Inv (X : Cx) (pins : List (Addr × Obj)) (σ : List (Option V)) (H : Hp) (s : Shared) : Prop where
 ok : X.Ok
 os : s.os = X.s₀.os
 bare : AllBare s.gens
 base : Un X.fs X.ex X.H₀ H X.s₀.heap s.heap
 loc : ∃ m, s.heap.Ns X.env.locals m ∧ ∀ (i : Nat) (x : Str) (v : V), X.N[i]? = some x → σ[i]? = some (some v) → Vis X.env.scope x → ∃ u, RelV v u ∧ Look X.env s.heap m x u
 cell : ∀ x c, X.env.cells.lookup x = some c → ∃ v, s.heap.IsCell c v
 free : H X.env.locals = none
 freeC : ∀ x c, X.env.cells.lookup x = some c → H c = none
 pin : ∀ p ∈ X.pn ++ pins, s.heap.get? p.1 = some p.2 ∧ H p.1 = none ∧ p.1 ≠ X.env.locals ∧ p.1 ∉ X.fs ∧ ∀ v, p.2.data ≠ .cell v
 hok : HOk X.prog X.w H s.heap
 len : σ.length = X.N.length
section
variable {X : Cx} {pins : List (Addr × Obj)} {σ : List (Option V)} {H H' : Hp} {s : Shared} {h' : Heap}
theorem Cx.Ok.nofr (ok : X.Ok) (e : X.base.get? b = some o) : b ∉ X.fs := fun hb => by
 have := (ok.funs.mem hb).1
 rw [e] at this; cases this
theorem Inv.bs (I : Inv X pins σ H s) : ∀ b o, X.base.get? b = some o → s.heap.get? b = some o ∧ H b = none := fun b o e =>
 ⟨I.base.keep b o (I.ok.bs b o e).1 (I.ok.bs b o e).2 (I.ok.nofr e) (I.ok.noex b o e), I.base.free b o (I.ok.bs b o e).1 (I.ok.bs b o e).2 (I.ok.noex b o e)⟩
theorem Inv.bk (I : Inv X pins σ H s) : ∀ b o, X.base.get? b = some o → s.heap.get? b = some o := fun b o e => (I.bs b o e).1
theorem Inv.mod (I : Inv X pins σ H s) : Mod X.K X.mg X.base := I.ok.mod
theorem Inv.kIn (I : Inv X pins σ H s) : X.K.In s.heap := I.ok.mod.kin.keeps I.bk
theorem Inv.lt (I : Inv X pins σ H s) : X.env.locals < s.heap.objs.size := let ⟨_, hn, _⟩ := I.loc; hn.lt
theorem Inv.sz (I : Inv X pins σ H s) : X.s₀.heap.objs.size ≤ s.heap.objs.size := Nat.le_trans I.ok.above (Nat.le_of_lt I.lt)
theorem Inv.nofs (I : Inv X pins σ H s) (h : s.heap.objs.size ≤ a) : a ∉ X.fs := fun hb => by
 obtain ⟨_, o, ho, _⟩ := I.ok.funs.mem hb
 exact absurd (Nat.lt_of_lt_of_le (Heap.lt_size ho) (Nat.le_trans I.sz h)) (Nat.lt_irrefl _)
theorem Inv.cne (I : Inv X pins σ H s) : ∀ x c, X.env.cells.lookup x = some c → c ≠ X.env.locals := fun x c e z => by
 obtain ⟨v, o, ho, hd⟩ := I.cell x c e
 obtain ⟨m, ⟨o', es, ep, ho', hd', _⟩, _⟩ := I.loc
 rw [z, ho'] at ho; cases ho; rw [hd'] at hd; cases hd
theorem Inv.funs (I : Inv X pins σ H s) : s.heap.FunFrames X.base X.outer := by
 have all : ∀ (l : List Env), (∀ b ∈ frs l, b ∈ X.fs) → X.s₀.heap.FunFrames X.base l → s.heap.FunFrames X.base l := by
  intro l
  induction l with
  | nil => intro _ _; trivial
  | cons env r ih =>
   intro hs hl
   obtain ⟨hk, ⟨L, o, hf, hn, ho, hd⟩, hr⟩ := hl
   have hL : L ∈ X.fs := hs L (by unfold frs; rw [List.filterMap_cons, hf]; exact List.mem_cons_self)
   obtain ⟨sl, e⟩ := I.base.slot L o ho (I.ok.frf L hL) hL fun z => I.ok.exfs L z hL
   exact ⟨hk, ⟨L, _, hf, hn, e, hd⟩, ih (fun b hb => hs b (by unfold frs; rw [List.filterMap_cons, hf]; exact List.mem_cons_of_mem _ hb)) hr⟩
 exact all X.outer (fun _ hb => hb) I.ok.funs
theorem Inv.stack (I : Inv X pins σ H s) : s.heap.FunFrames X.base X.stack := by
 rcases I.ok.stk with e | ⟨e, hf⟩
 · rw [e]; exact I.funs
 · rw [e]
   obtain ⟨m, hn, _⟩ := I.loc
   refine .cons (by rw [I.ok.kind]; decide) hf hn ?_ I.funs
   exact Heap.get?_none_of_le (Nat.le_trans I.ok.bsz I.ok.above)
theorem Inv.stkSub (I : Inv X pins σ H s) : ∀ b ∈ frs X.stack, b ∈ X.env.locals :: X.fs := fun b hb => by
 rcases I.ok.stk with e | ⟨e, hf⟩
 · rw [e] at hb; exact List.mem_cons_of_mem _ hb
 · rw [e] at hb
   unfold frs at hb
   rw [List.filterMap_cons, hf] at hb
   exact hb
theorem Inv.stkFree (I : Inv X pins σ H s) : ∀ b ∈ frs X.stack, H b = none := fun b hb => by
 rcases List.mem_cons.mp (I.stkSub b hb) with e | hb
 · rw [e]; exact I.free
 · obtain ⟨_, o, ho, _⟩ := I.ok.funs.mem hb
   exact I.base.free b o ho (I.ok.frf b hb) fun z => I.ok.exfs b z hb
theorem Inv.step {g' : Array GenState} {t' : Nat} {d' : Drawn} {ch : List Addr} (I : Inv X pins σ H s)
 (hch : ∀ b ∈ ch, (b ∈ X.ex ∨ X.s₀.heap.objs.size ≤ b) ∧ b ≠ X.env.locals ∧ (∀ x c, X.env.cells.lookup x = some c → c ≠ b) ∧ ∀ p ∈ X.pn ++ pins, p.1 ≠ b)
 (keep : ∀ b o, b ≠ X.env.locals → b ∉ X.fs → b ∉ ch → s.heap.get? b = some o → H b = none → h'.get? b = some o)
 (slot : ∀ b o, b ≠ X.env.locals → b ∈ X.fs → b ∉ ch → s.heap.get? b = some o → H b = none → ∃ sl, h'.get? b = some { o with slots := sl }) (free : ∀ b o, b ∉ ch → s.heap.get? b = some o → H b = none → H' b = none)
 (there : ∀ b o, b ∉ ch → s.heap.get? b = some o → ∃ o', h'.get? b = some o')
 (tups : ∀ b xs, H b = some (.tup xs) → H' b = some (.tup xs)) (frzs : ∀ b o u, H b = some (.frz o u) → H' b = some (.frz o u)) (tbls : ∀ b ps, H b = some (.tbl ps) → ∃ more, H' b = some (.tbl (ps ++ more)))
 (ns : ∀ m, s.heap.Ns X.env.locals m → h'.Ns X.env.locals m) (hok : HOk X.prog X.w H' h') (hg : AllBare g') :
 Inv X pins σ H' { s with heap := h', gens := g', drawn := d', toks := t' } := by
 have neL : ∀ b o, X.s₀.heap.get? b = some o → b ≠ X.env.locals := fun b o e => Nat.ne_of_lt (Nat.lt_of_lt_of_le (Heap.lt_size e) I.ok.above)
 have neC : ∀ b o, X.s₀.heap.get? b = some o → b ∉ X.ex → b ∉ ch := fun b o e hx hb => by
  rcases (hch b hb).1 with z | z
  · exact hx z
  · exact absurd (Nat.lt_of_lt_of_le (Heap.lt_size e) z) (Nat.lt_irrefl _)
 have cellK : ∀ x c, X.env.cells.lookup x = some c → ∀ v, s.heap.IsCell c v → h'.IsCell c v := fun x c e v ⟨o, ho, hd⟩ => by
  have nch : c ∉ ch := fun z => (hch c z).2.2.1 x c e rfl
  by_cases hc : c ∈ X.fs
  · obtain ⟨sl, q⟩ := slot c o (I.cne x c e) hc nch ho (I.freeC x c e)
    exact ⟨_, q, hd⟩
  · exact ⟨o, keep c o (I.cne x c e) hc nch ho (I.freeC x c e), hd⟩
 refine ⟨I.ok, I.os, hg, ⟨fun b o e n hb hx => ?_, fun b o e n hb hx => ?_, fun b o e n hx => ?_, fun b o e hx => ?_, fun b xs e => tups b xs (I.base.tups b xs e), fun b o xs e => frzs b o xs (I.base.frzs b o xs e), fun b ps e => ?_⟩, ?_, fun x c e => ?_, ?_, fun x c e => ?_, fun p hp => ?_, hok, I.len⟩
 · exact keep b o (neL b o e) hb (neC b o e hx) (I.base.keep b o e n hb hx) (I.base.free b o e n hx)
 · obtain ⟨sl, e1⟩ := I.base.slot b o e n hb hx
   obtain ⟨sl', e2⟩ := slot b _ (neL b o e) hb (neC b o e hx) e1 (I.base.free b o e n hx)
   exact ⟨sl', e2⟩
 · obtain ⟨o', e1⟩ := I.base.there b o e hx
   exact free b o' (neC b o e hx) e1 (I.base.free b o e n hx)
 · obtain ⟨o', e1⟩ := I.base.there b o e hx
   exact there b o' (neC b o e hx) e1
 · obtain ⟨m1, e1⟩ := I.base.tbls b ps e
   obtain ⟨m2, e2⟩ := tbls b _ e1
   exact ⟨m1 ++ m2, by rw [e2, Array.append_assoc]⟩
 · obtain ⟨m, hn, hl⟩ := I.loc
   refine ⟨m, ns m hn, fun i x v e1 e2 e3 => ?_⟩
   obtain ⟨u, r, l⟩ := hl i x v e1 e2 e3
   refine ⟨u, r, ?_⟩
   rcases l with l | ⟨k, c, e, z⟩
   · exact .inl l
   · exact .inr ⟨k, c, e, cellK x c e _ z⟩
 · obtain ⟨v, z⟩ := I.cell x c e
   exact ⟨v, cellK x c e v z⟩
 · obtain ⟨m, ⟨o, _, _, ho, _⟩, _⟩ := I.loc
   exact free _ o (fun z => (hch _ z).2.1 rfl) ho I.free
 · obtain ⟨v, o, ho, hd⟩ := I.cell x c e
   exact free c o (fun z => (hch c z).2.2.1 x c e rfl) ho (I.freeC x c e)
 · obtain ⟨e, n, ne, nf, d⟩ := I.pin p hp
   have nch : p.1 ∉ ch := fun z => (hch p.1 z).2.2.2 p hp rfl
   exact ⟨keep p.1 p.2 ne nf nch e n, free p.1 p.2 nch e n, ne, nf, d⟩
theorem Inv.un {t' : Nat} (I : Inv X pins σ H s) (u : Un X.fs [] H H' s.heap h') (hok : HOk X.prog X.w H' h') : Inv X pins σ H' { s with heap := h', toks := t' } := by
 obtain ⟨m, ⟨o, es, ep, ho, r⟩, _⟩ := id I.loc
 obtain ⟨sl, hL⟩ := u.any ho I.free (by simp)
 exact I.step (g' := s.gens) (d' := s.drawn) (ch := []) (fun _ z => nomatch z) (fun b o _ hb _ e n => u.keep b o e n hb (by simp)) (fun b o _ hb _ e n => u.slot b o e n hb (by simp)) (fun b o _ e n => u.free b o e n (by simp)) (fun b o _ e => u.there b o e (by simp)) u.tups u.frzs u.tbls (fun m' hm => by
  obtain ⟨o', es', ep', ho', r'⟩ := hm
  rw [ho] at ho'; cases ho'
  exact ⟨_, es', ep', hL, r'⟩) hok I.bare
theorem Inv.call {g' : Array GenState} {t' : Nat} {d' : Drawn} {ch : List Addr} (I : Inv X pins σ H s) (u : Un (frs X.stack) ch H H' s.heap h') (hok : HOk X.prog X.w H' h') (hg : AllBare g')
 (hch : ∀ b ∈ ch, (b ∈ X.ex ∨ X.s₀.heap.objs.size ≤ b) ∧ b ≠ X.env.locals ∧ (∀ x c, X.env.cells.lookup x = some c → c ≠ b) ∧ ∀ p ∈ X.pn ++ pins, p.1 ≠ b) :
 Inv X pins σ H' { s with heap := h', gens := g', drawn := d', toks := t' } := by
 obtain ⟨m, ⟨o, es, ep, ho, r⟩, _⟩ := id I.loc
 obtain ⟨sl, hL⟩ := u.any ho I.free fun z => (hch _ z).2.1 rfl
 exact I.step (ch := ch) hch (fun b o hL hb hc e n => u.keep b o e n (fun z => (List.mem_cons.mp (I.stkSub b z)).elim hL hb) hc) (fun b o _ _ hc e n => u.any e n hc) (fun b o hc e n => u.free b o e n hc) (fun b o hc e => u.there b o e hc) u.tups u.frzs u.tbls (fun m' hm => by
  obtain ⟨o', es', ep', ho', r'⟩ := hm
  rw [ho] at ho'; cases ho'
  exact ⟨_, es', ep', hL, r'⟩) hok hg
theorem Inv.turned {t' : Nat} {it : Addr} (I : Inv X pins σ H s) (k : ∀ b o, b ≠ it → s.heap.get? b = some o → h'.get? b = some o) (hn : H it = none) (hL : it ≠ X.env.locals)
 (h1 : it ∈ X.ex ∨ X.s₀.heap.objs.size ≤ it) (h2 : ∀ x c, X.env.cells.lookup x = some c → c ≠ it) (h3 : ∀ p ∈ X.pn ++ pins, p.1 ≠ it) : Inv X pins σ H { s with heap := h', toks := t' } := by
 have nit : ∀ b u, H b = some u → b ≠ it := fun b u e z => by rw [z, hn] at e; cases e
 refine I.step (g' := s.gens) (d' := s.drawn) (ch := [it]) (fun b hb => ?_) (fun b o _ _ hc e _ => k b o (fun z => hc (by simp [z])) e) (fun b o _ _ hc e _ => ⟨o.slots, k b o (fun z => hc (by simp [z])) e⟩) (fun _ _ _ _ n => n)
  (fun b o hc e => ⟨o, k b o (fun z => hc (by simp [z])) e⟩) (fun _ _ e => e) (fun _ _ _ e => e) (fun b ps e => ⟨#[], by rw [e]; simp⟩) (fun m hm => ?_) (fun b u e => ?_) I.bare
 · have e : b = it := by simpa using hb
   subst e
   exact ⟨h1, hL, h2, h3⟩
 · obtain ⟨o, es, ep, ho, r⟩ := hm
   exact ⟨o, es, ep, k _ o (Ne.symm hL) ho, r⟩
 · refine (I.hok b u e).stay (fun c v hc q => k c v ?_ q) (fun _ q => q) fun _ _ q => q
   rcases hc with z | z
   · rw [z]; exact nit b u e
   · exact nit c _ z
theorem Inv.tok (I : Inv X pins σ H s) (t : Nat) : Inv X pins σ H { s with toks := t } := I.un (h' := s.heap) (t' := t) Un.refl I.hok
theorem Inv.kept {t' : Nat} (I : Inv X pins σ H s) (k : ∀ b u, s.heap.get? b = some u → h'.get? b = some u) : Inv X pins σ H { s with heap := h', toks := t' } := I.un (Un.kept k) (I.hok.kept k)
theorem Inv.laid (I : Inv X pins σ H s) (k : ∀ b u, s.heap.get? b = some u → h'.get? b = some u) (hp : s.heap.objs.size ≤ a) (new : bj X.prog X.w (upd H a o) h' a o) :
 Inv X pins σ (upd H a o) { s with heap := h', toks := t' } := I.un (Un.laid k hp (I.hok.fresh hp)) (I.hok.laid k hp new)
theorem Inv.write (I : Inv X pins σ H s) (mu : Mut (H x)) (he : e = x ∨ H e = some (.own x)) (k : ∀ b u, b ≠ e → s.heap.get? b = some u → h'.get? b = some u) (heo : ∃ u, h'.get? e = some u)
 (new : bj X.prog X.w (upd H x o) h' x o) : Inv X pins σ (upd H x o) { s with heap := h', toks := t' } := I.un (Un.write mu he k heo) (I.hok.write mu he k heo new)
theorem Inv.pins_of (I : Inv X pins σ H s) (h : ∀ p ∈ pins', s.heap.get? p.1 = some p.2 ∧ H p.1 = none ∧ p.1 ≠ X.env.locals ∧ p.1 ∉ X.fs ∧ ∀ v, p.2.data ≠ .cell v) : Inv X pins' σ H s :=
 ⟨I.ok, I.os, I.bare, I.base, I.loc, I.cell, I.free, I.freeC, fun p hp => (List.mem_append.mp hp).elim (fun z => I.pin p (List.mem_append_left _ z)) (h p), I.hok, I.len⟩
theorem Ox {N : List Str} (hN : N.Nodup) {i j : Nat} {x : Str} (a : N[i]? = some x) (b : N[j]? = some x) : i = j := by
 obtain ⟨h1, e1⟩ := List.getElem?_eq_some_iff.mp a
 obtain ⟨h2, e2⟩ := List.getElem?_eq_some_iff.mp b
 exact (List.getElem_inj hN).mp (e1.trans e2.symm)
theorem Vj {M : Model} {A : Around} {E : Value → Shared → Prop} {i : Nat} {x : Str} {v : V} {u : Value} {Q : Unit → Shared → Prop} (I : Inv X pins σ H s) (hN : X.N.Nodup) (hi : X.N[i]? = some x) (hx : Loc X.env.scope x) (r : RelV v u)
 (h : ∀ s', Inv X pins (σ.set i (some v)) H s' → (∃ a, Heap.SameBut a s.heap s'.heap ∧ (a = X.env.locals ∨ X.env.cells.lookup x = some a)) → Q () s') (hf : X.fn x = true ∨ X.env.scope.names.lookup x = some .local := by first | exact .inl rfl | exact .inr rfl | assumption) : wpAny M A (storeName X.env x u) Q E s := by
 obtain ⟨m, hn, hl⟩ := id I.loc
 have hcls : (X.env.scope.kind == .class || (X.env.scope.kind == .module && X.env.locals != X.env.globals)) = false := by rw [I.ok.kind]; rfl
 have hiσ : i < σ.length := by rw [I.len]; exact (List.getElem?_eq_some_iff.mp hi).1
 have cne := I.cne
 have tracked : ∀ {a : Addr} {h' : Heap}, (∃ o, s.heap.get? a = some o ∧ H a = none) → Heap.SameBut a s.heap h' → HOk X.prog X.w H h' := fun {a h'} ha hs b ob e => by
  obtain ⟨_, _, hfree⟩ := ha
  refine (I.hok b ob e).stay (fun c w' hc q => (hs.2 c ?_).trans q) (fun _ q => q) fun _ _ q => q
  rintro rfl
  rcases hc with rfl | hc
  · rw [hfree] at e; cases e
  · rw [hfree] at hc; cases hc
 rcases hx with hk | hk
 · refine wpAny_storeName_local hk hn (fun h' hn' hs => ?_) hcls
   obtain ⟨oL, _, _, hoL, _⟩ := id hn
   refine h _ ⟨I.ok, I.os, I.bare, ⟨fun b o e n hb hx => ?_, fun b o e n hb hx => ?_, I.base.free, fun b o e hx => ?_, I.base.tups, I.base.frzs, I.base.tbls⟩, ⟨_, hn', fun j y v' e1 e2 e3 => ?_⟩, fun y c e => ?_, I.free, I.freeC, fun p hp => ?_, tracked ⟨oL, hoL, I.free⟩ hs, by simpa using I.len⟩ ⟨_, hs, .inl rfl⟩
   · exact (hs.2 b (Nat.ne_of_lt (Nat.lt_of_lt_of_le (Heap.lt_size e) I.ok.above))).trans (I.base.keep b o e n hb hx)
   · obtain ⟨sl, e1⟩ := I.base.slot b o e n hb hx
     exact ⟨sl, (hs.2 b (Nat.ne_of_lt (Nat.lt_of_lt_of_le (Heap.lt_size e) I.ok.above))).trans e1⟩
   · obtain ⟨o', e1⟩ := I.base.there b o e hx
     exact ⟨o', (hs.2 b (Nat.ne_of_lt (Nat.lt_of_lt_of_le (Heap.lt_size e) I.ok.above))).trans e1⟩
   · by_cases hj : j = i
     · subst hj
       rw [hi] at e1; cases e1
       rw [List.getElem?_set_self hiσ] at e2
       cases e2
       exact ⟨u, r, .inl ⟨hk, by simp⟩⟩
     · rw [List.getElem?_set_ne (Ne.symm hj)] at e2
       obtain ⟨u', r', q⟩ := hl j y v' e1 e2 e3
       refine ⟨u', r', ?_⟩
       rcases q with ⟨k, e⟩ | ⟨k, c, e, z⟩
       · refine .inl ⟨k, ?_⟩
         have : y ≠ x := fun e => hj (Ox hN e1 (e ▸ hi))
         simp [this, e]
       · exact .inr ⟨k, c, e, z.sameBut hs (cne y c e)⟩
   · obtain ⟨w', z⟩ := I.cell y c e
     exact ⟨w', z.sameBut hs (cne y c e)⟩
   · obtain ⟨e, n, ne, nf, d⟩ := I.pin p hp
     exact ⟨(hs.2 p.1 ne).trans e, n, ne, nf, d⟩
 · have hfn : X.fn x = true := by
    rcases hf with z | z
    · exact z
    · rw [z] at hk; cases hk
   obtain ⟨c, hc⟩ := I.ok.has x (.inl hk)
   obtain ⟨w', z⟩ := I.cell x c hc
   refine wpAny_storeName_cell I.ok.kind hk hc z (fun h' hc' hs => ?_)
   obtain ⟨oc, hoc, hocd⟩ := id z
   refine h { s with heap := h' } ⟨I.ok, I.os, I.bare, ⟨fun b o e n hb hx => ?_, fun b o e n hb hx => ?_, I.base.free, fun b o e hx => ?_, I.base.tups, I.base.frzs, I.base.tbls⟩, ⟨m, hn.sameBut hs (Ne.symm (cne x c hc)), fun j y v' e1 e2 e3 => ?_⟩, fun y c' e => ?_, I.free, I.freeC, fun p hp => ?_, tracked ⟨oc, hoc, I.freeC x c hc⟩ hs, by simpa using I.len⟩ ⟨c, hs, .inr hc⟩
   · exact (hs.2 b (Nat.ne_of_lt (Nat.lt_of_lt_of_le (Heap.lt_size e) (I.ok.cab x c hfn hc)))).trans (I.base.keep b o e n hb hx)
   · obtain ⟨sl, e1⟩ := I.base.slot b o e n hb hx
     exact ⟨sl, (hs.2 b (Nat.ne_of_lt (Nat.lt_of_lt_of_le (Heap.lt_size e) (I.ok.cab x c hfn hc)))).trans e1⟩
   · obtain ⟨o', e1⟩ := I.base.there b o e hx
     exact ⟨o', (hs.2 b (Nat.ne_of_lt (Nat.lt_of_lt_of_le (Heap.lt_size e) (I.ok.cab x c hfn hc)))).trans e1⟩
   · by_cases hj : j = i
     · subst hj
       rw [hi] at e1; cases e1
       rw [List.getElem?_set_self hiσ] at e2
       cases e2
       exact ⟨u, r, .inr ⟨.inl hk, c, hc, hc'⟩⟩
     · rw [List.getElem?_set_ne (Ne.symm hj)] at e2
       obtain ⟨u', r', q⟩ := hl j y v' e1 e2 e3
       refine ⟨u', r', ?_⟩
       rcases q with q | ⟨k, c', e, z'⟩
       · exact .inl q
       · refine .inr ⟨k, c', e, z'.sameBut hs ?_⟩
         rintro rfl
         exact hj (Ox hN e1 (I.ok.inj _ _ _ e hc ▸ hi))
   · by_cases hcc : c' = c
     · subst hcc; exact ⟨_, hc'⟩
     · obtain ⟨w2, z2⟩ := I.cell y c' e
       exact ⟨w2, z2.sameBut hs hcc⟩
   · obtain ⟨e, n, ne, nf, d⟩ := I.pin p hp
     refine ⟨(hs.2 p.1 ?_).trans e, n, ne, nf, d⟩
     intro q
     rw [q, hoc] at e
     have q' : oc = p.2 := Option.some.inj e
     exact d w' (by rw [← q']; exact hocd)
theorem Ih {M : Model} {A : Around} {E : Value → Shared → Prop} {i : Nat} {x : Str} {v : V} {u : Value} {Q : Unit → Shared → Prop} (I : Inv X pins σ H s) (hN : X.N.Nodup) (hi : X.N[i]? = some x) (hx : Loc X.env.scope x) (r : RelV v u)
 (h : ∀ s', Inv X pins (σ.set i (some v)) H s' → Q () s') (hf : X.fn x = true ∨ X.env.scope.names.lookup x = some .local := by first | exact .inl rfl | exact .inr rfl | assumption) : wpAny M A (storeName X.env x u) Q E s :=
 Vj I hN hi hx r (fun s' I' _ => h s' I') hf
theorem Inv.call' (I : Inv X pins σ H s) (ho : s'.os = s.os) (u : Un (frs X.stack) ch H H' s.heap s'.heap) (hok : HOk X.prog X.w H' s'.heap) (hg : AllBare s'.gens)
 (hch : ∀ b ∈ ch, (b ∈ X.ex ∨ X.s₀.heap.objs.size ≤ b) ∧ b ≠ X.env.locals ∧ (∀ x c, X.env.cells.lookup x = some c → c ≠ b) ∧ ∀ p ∈ X.pn ++ pins, p.1 ≠ b) : Inv X pins σ H' s' := by
 obtain ⟨h', g', d', t', o'⟩ := s'
 have e : o' = s.os := ho
 subst e
 exact I.call (g' := g') (t' := t') (d' := d') u hok hg hch
end
abbrev XK := Value → Option Addr → Hp → Prop
abbrev St := List (Option V)
abbrev VK := V → Hp → Prop
abbrev TE := St → Hp → VK → Prop
abbrev TT := St → Hp → (Bool → Hp → Prop) → Prop
abbrev TA := St → Hp → (List V → Hp → Prop) → Prop
structure Ends where
 nx : St → Hp → Prop
 rt : VK
 bk : St → Hp → Prop := fun _ _ => False
 ct : St → Hp → Prop := fun _ _ => False
abbrev TS := Ends → St → Hp → Prop
def EP (X : Cx) (pins : List (Addr × Obj)) (σ : St) (Q : VK) (u : Value) (s' : Shared) : Prop := ∃ v H', Inv X pins σ H' s' ∧ RelV v u ∧ Q v H'
def TP (X : Cx) (pins : List (Addr × Obj)) (σ : St) (Q : Bool → Hp → Prop) (b : Bool) (s' : Shared) : Prop := ∃ H', Inv X pins σ H' s' ∧ Q b H'
def AP (X : Cx) (pins : List (Addr × Obj)) (σ : St) (Q : List V → Hp → Prop) (us : List Value) (s' : Shared) : Prop := ∃ vs H', Inv X pins σ H' s' ∧ Vals vs us ∧ Q vs H'
def SP (X : Cx) (pins : List (Addr × Obj)) (D : Ends) (f : Flow) (s' : Shared) : Prop :=
 match f with
 | .next => ∃ σ' H', Inv X pins σ' H' s' ∧ D.nx σ' H'
 | .brk => ∃ σ' H', Inv X pins σ' H' s' ∧ D.bk σ' H'
 | .cont => ∃ σ' H', Inv X pins σ' H' s' ∧ D.ct σ' H'
 | .ret u => ∃ v σ' H', Inv X pins σ' H' s' ∧ RelV v u ∧ D.rt v H'
def PE (X : Cx) (e : Expr) (t : TE) : Prop :=
 ∀ (pins : List (Addr × Obj)) (s : Shared) (σ : St) (H : Hp) (Q : VK), Inv X pins σ H s → t σ H Q → wpAny (model X.prog X.w) X.A (eval e X.env) (EP X pins σ Q) X.xe s
def PT (X : Cx) (e : Expr) (t : TT) : Prop :=
 ∀ (pins : List (Addr × Obj)) (s : Shared) (σ : St) (H : Hp) (Q : Bool → Hp → Prop), Inv X pins σ H s → t σ H Q → wpAny (model X.prog X.w) X.A (isTrue e X.env (eval e X.env)) (TP X pins σ Q) X.xe s
def PW (X : Cx) (e : Expr) (t : TT) : Prop :=
 ∀ (whole : Sem Value) (pins : List (Addr × Obj)) (s : Shared) (σ : St) (H : Hp) (Q : Bool → Hp → Prop), Inv X pins σ H s → t σ H Q → wpAny (model X.prog X.w) X.A (isTrue e X.env whole) (TP X pins σ Q) X.xe s
theorem PW.pt {X : Cx} {e : Expr} {t : TT} (h : PW X e t) : PT X e t := h _
def PA (X : Cx) (es : List Expr) (t : TA) : Prop :=
 ∀ (pos : Pos) (pins : List (Addr × Obj)) (s : Shared) (σ : St) (H : Hp) (Q : List V → Hp → Prop), Inv X pins σ H s → t σ H Q → wpAny (model X.prog X.w) X.A (spliced (backTo pos (starEach es X.env))) (AP X pins σ Q) X.xe s
def PS (X : Cx) (st : Stmt) (t : TS) : Prop :=
 ∀ (pins : List (Addr × Obj)) (s : Shared) (σ : St) (H : Hp) (D : Ends), Inv X pins σ H s → t D σ H → wpAny (model X.prog X.w) X.A (exec st X.env) (SP X pins D) X.xe s
def PSs (X : Cx) (st : List Stmt) (t : TS) : Prop :=
 ∀ (pins : List (Addr × Obj)) (s : Shared) (σ : St) (H : Hp) (D : Ends), Inv X pins σ H s → t D σ H → wpAny (model X.prog X.w) X.A (execs st X.env) (SP X pins D) X.xe s
theorem thn {α : Type} {t : Sem α} {Q Q' : α → Shared → Prop} {M : Model} {A : Around} {E : Value → Shared → Prop} {s : Shared} (h : wpAny M A t Q E s) (hQ : ∀ a s, Q a s → Q' a s) : wpAny M A t Q' E s := wpAny_mono h hQ fun _ _ x => x
section
variable {X : Cx}
def Lw (i : Nat) : TE := fun σ H Q => ∃ v, σ[i]? = some (some v) ∧ Q v H
def tC (v : V) : TE := fun _ H Q => Q v H
theorem vk {pos : Pos} (hN : X.N[i]? = some x) (hv : Vis X.env.scope x) (hd : (x == ("__debug__" : Str)) = false := by decide) (hcd : (x == ("__classdict__" : Str)) = false := by decide) : PE X (.Name x pos) (Lw i) := by
 intro pins s σ H Q I h
 obtain ⟨v, e, h⟩ := h
 obtain ⟨m, hn, hl⟩ := I.loc
 obtain ⟨u, r, l⟩ := hl i x v hN e hv
 have fin : EP X pins σ Q u s := ⟨v, H, I, r, h⟩
 rcases l with ⟨hk, hm⟩ | ⟨hk, c, hc, hcell⟩
 · exact wpAny_Name (wpAny_loadName_local I.ok.kind hk hn hm fin) hd
 · rcases hk with hk | hk
   · exact wpAny_Name (wpAny_loadName_cell I.ok.kind hk hc hcell fin) hd
   · exact wpAny_Name (wpAny_loadName_free I.ok.kind hk hc hcell fin hcd) hd
theorem Vk {i j pos} : PE X (.Constant (.int i) j pos) (tC (.int i)) := fun _ _ _ H _ I h => wpAny_Constant_int ⟨.int i, H, I.tok _, ⟨_, rfl⟩, h⟩
theorem Vl {b j pos} : PE X (.Constant (.bool b) j pos) (tC (.bl b)) := fun _ _ _ H _ I h => Constant_bool ⟨.bl b, H, I, rfl, h⟩
theorem vm {j pos} : PE X (.Constant .none j pos) (tC .non) := fun _ _ _ H _ I h => Constant_none ⟨.non, H, I, rfl, h⟩
theorem oy {x j pos} : PE X (.Constant (.str x) j pos) (tC (.str x)) := fun _ _ _ H _ I h => Calls.Constant_str ⟨.str x, H, I.tok _, ⟨_, rfl⟩, h⟩
def Gl (X : Cx) (x : Str) : Prop := X.env.kindOf x = some .globalImplicit
theorem gc {E : Value → Shared → Prop} {σ : St} {pos : Pos} (I : Inv X pins σ H s) (hg : Gl X x) (hm : X.mg x = some u) (h : Q u s)
 (hd : (x == ("__debug__" : Str)) = false := by decide) : wpAny (model X.prog X.w) X.A (eval (.Name x pos) X.env) Q E s :=
 Calls.Name_function_global I.ok.kind hg (Calls.loadGlobal_global (by rw [I.ok.glob]; exact I.mod.glob.keeps I.bk) hm h) hd
theorem gz {E : Value → Shared → Prop} {pins : List (Addr × Obj)} {s : Shared} {σ : St} {H : Hp} {x : Str} {u : Value} {pos : Pos} {Q : Value → Shared → Prop} (I : Inv X pins σ H s) (hg : Gl X x) (hm : X.mg x = none) (hv : bootBuiltins x = some u) (h : Q u s)
 (hn : x ≠ "__name__" := by decide) (hd : (x == ("__debug__" : Str)) = false := by decide) : wpAny (model X.prog X.w) X.A (eval (.Name x pos) X.env) Q E s := by
 obtain ⟨mb, h1, h2⟩ := I.mod.blt
 exact Calls.Name_function_global I.ok.kind hg (Calls.loadGlobal_builtin (by rw [I.ok.glob]; exact I.mod.glob.keeps I.bk) hm (by rw [I.ok.blt]; exact h1.keeps I.bk) ((h2 x hn).trans hv) h) hd
theorem jh {pos : Pos} (hg : Gl X x) (hm : X.mg x = some u) (r : RelV v u) (hd : (x == ("__debug__" : Str)) = false := by decide) : PE X (.Name x pos) (tC v) :=
 fun _ _ _ H _ I h => gc I hg hm ⟨v, H, I, r, h⟩ hd
theorem Vm {pos : Pos} (hg : Gl X x) (hm : X.mg x = none) (hv : bootBuiltins x = some u) (r : RelV v u) (hn : x ≠ "__name__" := by decide) (hd : (x == ("__debug__" : Str)) = false := by decide) : PE X (.Name x pos) (tC v) :=
 fun _ _ _ H _ I h => gz I hg hm hv ⟨v, H, I, r, h⟩ hn hd
variable {a b : Expr} {ta tb : TE} {pos : Pos}
variable {tA tB' : TT} {rest : List Expr}
def vn (t u : TT) : TT := fun σ H Q => t σ H fun c H1 => if c = true then u σ H1 Q else Q false H1
def tOr (t u : TT) : TT := fun σ H Q => t σ H fun c H1 => if c = true then Q true H1 else u σ H1 Q
def Vn (t : TT) : TT := fun σ H Q => t σ H fun c H1 => Q (!c) H1
theorem vo (ha : PT X a tA) : PW X (.BoolOp .And [a] pos) tA := by
 intro wh pins s σ H Q I h
 refine isTrue_and (thn (ha pins s σ H Q I h) fun c s1 e => ?_)
 cases c with
 | true => exact isTrue_and_nil e
 | false => exact e
theorem Vo (ha : PT X a tA) : PW X (.BoolOp .Or [a] pos) tA := by
 intro wh pins s σ H Q I h
 refine isTrue_or (thn (ha pins s σ H Q I h) fun c s1 e => ?_)
 cases c with
 | false => exact isTrue_or_nil e
 | true => exact e
theorem vp (ha : PT X a tA) (hb : PW X (.BoolOp .And (b :: rest) pos) tB') : PW X (.BoolOp .And (a :: b :: rest) pos) (vn tA tB') := by
 intro wh pins s σ H Q I h
 refine isTrue_and (thn (ha pins s σ H _ I h) fun c s1 ⟨H1, I1, q1⟩ => ?_)
 cases c with
 | true => exact hb wh pins s1 σ H1 Q I1 q1
 | false => exact ⟨H1, I1, q1⟩
theorem Vp (ha : PT X a tA) (hb : PW X (.BoolOp .Or (b :: rest) pos) tB') : PW X (.BoolOp .Or (a :: b :: rest) pos) (tOr tA tB') := by
 intro wh pins s σ H Q I h
 refine isTrue_or (thn (ha pins s σ H _ I h) fun c s1 ⟨H1, I1, q1⟩ => ?_)
 cases c with
 | true => exact ⟨H1, I1, q1⟩
 | false => exact hb wh pins s1 σ H1 Q I1 q1
theorem vq (ha : PT X a tA) : PT X (.UnaryOp .Not a pos) (Vn tA) := by
 intro pins s σ H Q I h
 exact isTrue_not (ha pins s σ H (fun c H1 => Q (!c) H1) I h)
def Vq (ta tb : TE) : TE := fun σ H Q => ta σ H fun x H1 => ∃ c, x = .bl c ∧ if c = true then tb σ H1 Q else Q (.bl false) H1
def Vr (ta : TE) : TE := fun σ H Q => ta σ H fun x H1 => ∃ c, x = .bl c ∧ Q (.bl (!c)) H1
theorem Vs {op} (h : PE X a t) : PE X (.BoolOp op [a] pos) t := fun pins s σ H Q I hw => BoolOp_one (h pins s σ H Q I hw)
theorem vt (ha : PE X a ta) (hb : PE X (.BoolOp .And (b :: rest) pos) tb) : PE X (.BoolOp .And (a :: b :: rest) pos) (Vq ta tb) := by
 intro pins s σ H Q I h
 refine BoolOp_and (thn (ha pins s σ H _ I h) fun v s1 ⟨x, H1, I1, r1, q1⟩ => ?_)
 obtain ⟨c, rfl, q1⟩ := q1
 cases r1
 refine wpAny_truthy_bool ?_
 cases c with
 | true => exact hb pins s1 σ H1 Q I1 q1
 | false => exact ⟨.bl false, H1, I1, rfl, q1⟩
theorem Vt (ha : PE X a ta) : PE X (.UnaryOp .Not a pos) (Vr ta) := by
 intro pins s σ H Q I h
 refine UnaryOp_ (thn (ha pins s σ H _ I h) fun v s1 ⟨x, H1, I1, r1, q1⟩ => ?_)
 obtain ⟨c, rfl, q1⟩ := q1
 cases r1
 exact not_of (wpAny_truthy_bool ⟨.bl (!c), H1, I1, rfl, q1⟩)
def tIf (t : TT) (ta tb : TE) : TE := fun σ H Q => t σ H fun c H1 => if c = true then ta σ H1 Q else tb σ H1 Q
theorem Vu {c : Expr} (hc : PT X c tA) (ha : PE X a ta) (hb : PE X b tb) : PE X (.IfExp c a b pos) (tIf tA ta tb) := by
 intro pins s σ H Q I h
 refine wpAny_IfExp (thn (hc pins s σ H _ I h) fun d s1 ⟨H1, I1, q1⟩ => ?_)
 cases d with
 | true => exact ha pins s1 σ H1 Q I1 q1
 | false => exact hb pins s1 σ H1 Q I1 q1
end
def SqL (K : W.Frag) (H : Hp) (a : Addr) (xs : List V) : Prop :=
 Rd H a (.lst xs) ∨
  ∃ (o : Obj) (its : Array Value) (n : Nat), K.lookup a = some o ∧ o.cls = .type "list" ∧ o.dict = none ∧ o.data = .seq its n ∧ its.size ≤ sizeLine ∧ Vals xs its.toList
def SqT (K : W.Frag) (H : Hp) (a : Addr) (xs : List V) : Prop :=
 Rd H a (.tup xs) ∨
  ∃ (o : Obj) (its : Array Value) (n : Nat), K.lookup a = some o ∧ o.cls = .type "tuple" ∧ o.data = .seq its n ∧ its.size ≤ sizeLine ∧ Vals xs its.toList
def Vv : Value → Option V
 | .none => some .non
 | .bool b => some (.bl b)
 | .int i _ => some (.int i)
 | .str x _ => some (.str x)
 | .bytes b _ => some (.byt b)
 | .float b _ => some (.flt b)
 | .ref a => some (.ref a)
 | .type n => some (.ty n)
 | _ => none
theorem RelV.abs (r : RelV x u) : Vv u = some x := by
 cases x with
 | non => cases r; rfl
 | bl _ => cases r; rfl
 | int _ => obtain ⟨t, rfl⟩ := r; rfl
 | str _ => obtain ⟨t, rfl⟩ := r; rfl
 | byt _ => obtain ⟨t, rfl⟩ := r; rfl
 | flt _ => obtain ⟨t, rfl⟩ := r; rfl
 | ref _ => cases r; rfl
 | ty _ => cases r; rfl
theorem RelV.inj {x y : V} {u : Value} (r : RelV x u) (q : RelV y u) : x = y := Option.some.inj (r.abs.symm.trans q.abs)
theorem Vals.inj : ∀ {xs ys : List V} {us : List Value}, Vals xs us → Vals ys us → xs = ys
 | _, _, _, .nil, .nil => rfl
 | _, _, _, .cons r t, .cons r' t' => by rw [r.inj r', Vals.inj t t']
section
variable {X : Cx} {pins : List (Addr × Obj)} {σ : St} {H : Hp} {s : Shared} {a : Addr} {xs ys : List V}
theorem SqL.of {K : W.Frag} (h : H a = some (.lst xs)) : SqL K H a xs := .inl (.inl h)
theorem SqT.of {K : W.Frag} (h : H a = some (.tup xs)) : SqT K H a xs := .inl (.inl h)
theorem Inv.list (I : Inv X pins σ H s) (h : SqL X.K H a xs) : ∃ its : List Value, Vals xs its ∧ PlainL s.heap a its.toArray ∧ xs.length ≤ sizeLine := by
 rcases h with h | ⟨o, its, n, hk, hc, hd, hs, hz, r⟩
 · obtain ⟨z, its, n, r, e⟩ := h.ok I.hok
   exact ⟨its, r, ⟨_, n, e, rfl, rfl, rfl⟩, z⟩
 · refine ⟨its.toList, r, ⟨o, n, I.kIn a o hk, hc, hd, by simpa using hs⟩, ?_⟩
   have e := r.length
   simp only [Array.length_toList] at e
   omega
theorem Inv.tuple (I : Inv X pins σ H s) (h : SqT X.K H a xs) : ∃ its : List Value, Vals xs its ∧ IsTup s.heap a its.toArray ∧ xs.length ≤ sizeLine := by
 rcases h with h | ⟨o, its, n, hk, hc, hs, hz, r⟩
 · obtain ⟨z, its, r, p⟩ := h.ok I.hok
   exact ⟨its, r, p, z⟩
 · refine ⟨its.toList, r, ⟨o, I.kIn a o hk, hc, n, by simpa using hs⟩, ?_⟩
   have e := r.length
   simp only [Array.length_toList] at e
   omega
theorem Inv.list_inj (I : Inv X pins σ H s) (h : SqL X.K H a xs) (h' : SqL X.K H a ys) : xs = ys := by
 obtain ⟨its, r, ⟨o, n, e, _, _, d⟩, _⟩ := I.list h
 obtain ⟨its', r', ⟨o', n', e', _, _, d'⟩, _⟩ := I.list h'
 rw [e] at e'; cases e'
 rw [d] at d'
 injection d' with d1 _
 have : its = its' := by simpa using congrArg Array.toList d1
 subst this
 exact r.inj r'
theorem Inv.tuple_inj (I : Inv X pins σ H s) (h : SqT X.K H a xs) (h' : SqT X.K H a ys) : xs = ys := by
 obtain ⟨its, r, ⟨o, e, _, n, d⟩, _⟩ := I.tuple h
 obtain ⟨its', r', ⟨o', e', _, n', d'⟩, _⟩ := I.tuple h'
 rw [e] at e'; cases e'
 rw [d] at d'
 injection d' with d1 _
 have : its = its' := by simpa using congrArg Array.toList d1
 subst this
 exact r.inj r'
end
section
variable {X : Cx} {pins : List (Addr × Obj)} {σ : St} {H : Hp} {s : Shared} {E : Value → Shared → Prop}
end
section
variable {X : Cx} {st : Stmt} {rest : List Stmt} {t u : TS} {e : Expr} {te : TE} {pos : Pos}
def vw : TS := fun D σ H => D.nx σ H
def Vw (t u : TS) : TS := fun D σ H => t { D with nx := u D } σ H
theorem Vx : PSs X [] vw := fun _ _ σ H _ I h => wpAny_execs_nil ⟨σ, H, I, h⟩
theorem vy (h1 : PS X st t) (h2 : PSs X rest u) : PSs X (st :: rest) (Vw t u) := by
 intro pins s σ H D I h
 refine wpAny_execs_cons (thn (h1 pins s σ H { D with nx := u D } I h) fun f s1 q => ?_)
 cases f with
 | next =>
  obtain ⟨σ', H', I', q⟩ := q
  exact h2 pins s1 σ' H' D I' q
 | ret v => exact q
 | brk => exact q
 | cont => exact q
theorem Inv.quiet {pins : List (Addr × Obj)} {σ : St} {H : Hp} {s : Shared} (I : Inv X pins σ H s) : interactive X.env = false := by simp [interactive, I.ok.kind]
def Vy (te : TE) : TS := fun D σ H => te σ H fun _ H1 => D.nx σ H1
theorem vz (he : PE X e te) (hs : swapsWith e none pos.line X.env = pure false := by rfl) : PS X (.Expr e pos) (Vy te) := by
 intro pins s σ H D I h
 exact wpAny_Expr_any (thn (he pins s σ H _ I h) fun v s1 ⟨x, H1, I1, r1, q1⟩ => ⟨σ, H1, I1, q1⟩) I.quiet hs
def Vz (te : TE) : TS := fun D σ H => te σ H D.rt
theorem wa (he : PE X e te) : PS X (.Return (some e) pos) (Vz te) := by
 intro pins s σ H D I h
 exact wpAny_Return_some (thn (he pins s σ H _ I h) fun v s1 ⟨x, H1, I1, r1, q1⟩ => ⟨x, σ, H1, I1, r1, q1⟩)
def Wa (c : TT) (t u : TS) : TS := fun D σ H => c σ H fun b H1 => if b = true then t D σ H1 else u D σ H1
theorem wb {c : Expr} {a b : List Stmt} {tc : TT} (hc : PT X c tc) (ha : PSs X a t) (hb : PSs X b u) : PS X (.If c a b pos) (Wa tc t u) := by
 intro pins s σ H D I h
 refine wpAny_If (thn (hc pins s σ H _ I h) fun d s1 ⟨H1, I1, q1⟩ => ?_)
 cases d with
 | true => exact ha pins s1 σ H1 D I1 q1
 | false => exact hb pins s1 σ H1 D I1 q1
end
abbrev TG := V → St → Hp → (St → Hp → Prop) → Prop
abbrev TGs := List V → St → Hp → (St → Hp → Prop) → Prop
def PG (X : Cx) (target : Expr) (t : TG) : Prop :=
 ∀ (pins : List (Addr × Obj)) (s : Shared) (σ : St) (H : Hp) (v : V) (u : Value) (Q : St → Hp → Prop), Inv X pins σ H s → RelV v u → t v σ H Q →
  wpAny (model X.prog X.w) X.A (assign target X.env u) (fun _ s' => ∃ σ' H', Inv X pins σ' H' s' ∧ Q σ' H') X.xe s
def PGs (X : Cx) (ts : List Expr) (t : TGs) : Prop :=
 ∀ (pins : List (Addr × Obj)) (s : Shared) (σ : St) (H : Hp) (vs : List V) (us : List Value) (Q : St → Hp → Prop), Inv X pins σ H s → Vals vs us → t vs σ H Q →
  wpAny (model X.prog X.w) X.A (assignInOrder ((assignEach ts X.env).map (·.2)) us) (fun _ s' => ∃ σ' H', Inv X pins σ' H' s' ∧ Q σ' H') X.xe s
abbrev TIp := V → V → Hp → VK → Prop
def PIp (X : Cx) (op : Operator) (t : TIp) : Prop :=
 ∀ (pins : List (Addr × Obj)) (s : Shared) (σ : St) (H : Hp) (x y : V) (v u : Value) (Q : VK), Inv X pins σ H s → RelV x v → RelV y u → t x y H Q →
  wpAny (model X.prog X.w) X.A (inplaceOp op v u) (EP X pins σ Q) X.xe s
section
variable {X : Cx} {pos : Pos}
def Jy (i : Nat) : TG := fun v σ H Q => Q (σ.set i (some v)) H
theorem di (hN : X.N.Nodup) (hi : X.N[i]? = some x) (hx : Loc X.env.scope x) (hf : X.fn x = true ∨ X.env.scope.names.lookup x = some .local := by first | exact .inl rfl | exact .inr rfl | assumption) : PG X (.Name x pos) (Jy i) := by
 intro pins s σ H v u Q I r h
 exact wpAny_assign_Name (Ih I hN hi hx r (fun s' I' => ⟨_, H, I', h⟩) hf)
def lx : TGs := fun vs σ H Q => vs = [] ∧ Q σ H
def jz (t : TG) (u : TGs) : TGs := fun vs σ H Q => ∃ v r, vs = v :: r ∧ t v σ H fun σ' H' => u r σ' H' Q
theorem Ii : PGs X [] lx := by
 intro pins s σ H vs us Q I r h
 obtain ⟨e, h⟩ := h
 subst e
 cases r
 exact assignInOrder_nil ⟨σ, H, I, h⟩
theorem Cu {e : Expr} {es : List Expr} {t : TG} {u : TGs} (h1 : PG X e t) (h2 : PGs X es u)
 (hs : (assignEach (e :: es) X.env).map (·.2) = assign e X.env :: (assignEach es X.env).map (·.2) := by rfl) : PGs X (e :: es) (jz t u) := by
 intro pins s σ H vs us Q I r h
 obtain ⟨v, vr, e1, h⟩ := h
 subst e1
 cases r with
 | cons r rr =>
  rw [hs]
  refine assignInOrder_cons (thn (h1 pins s σ H _ _ _ I r h) fun _ s1 ⟨σ1, H1, I1, q1⟩ => ?_)
  exact h2 pins s1 σ1 H1 _ _ Q I1 rr q1
def Lx (K : W.Frag) (n : Nat) (t : TGs) : TG := fun v σ H Q => ∃ a xs, v = .ref a ∧ SqT K H a xs ∧ xs.length = n ∧ t xs σ H Q
theorem Ij {k : Nat} (hc : X.calm = true) (h : PGs X es t)
 (hn : (assignEach es X.env).length = n := by rfl) (hst : (assignEach es X.env).findIdx? (·.1) = none := by rfl) : PG X (.Tuple es k pos) (Lx X.K n t) := by
 intro pins s σ H v u Q I r hw
 obtain ⟨a, xs, e1, hq, hl, hw⟩ := hw
 subst e1
 cases r
 obtain ⟨its, rv, ht, hz⟩ := I.tuple hq
 refine assign_Tuple_tuple (I.ok.hd hc) ht (by simp [hn, ← hl, rv.length]) hst fun h' hx => ?_
 have I1 : Inv X pins σ H { s with heap := h' } := I.kept (t' := s.toks) fun b o e => hx b o (Nat.ne_of_lt (Heap.lt_size e)) e
 exact h pins _ σ H xs _ Q I1 (by simpa using rv) hw
def Oy (te : TE) (g : TG) : TS := fun D σ H => te σ H fun x H1 => g x σ H1 D.nx
theorem Wb {tg e : Expr} {te : TE} {g : TG} (he : PE X e te) (hg : PG X tg g) (hs : swapsWithSole [tg] e pos.line X.env = pure false := by rfl) (hw : swappedStores [tg] e X.env = pure none := by rfl)
 (h1 : (assignEach [tg] X.env).map (·.2) = [assign tg X.env] := by rfl) : PS X (.Assign [tg] e pos) (Oy te g) := by
 intro pins s σ H D I h
 refine wpAny_Assign_stores (thn (he pins s σ H _ I h) fun v s1 ⟨x, H1, I1, r1, q1⟩ => ?_) hs hw
 rw [h1]
 exact thn (hg pins s1 σ H1 x v _ I1 r1 q1) fun _ s2 q => q
theorem wc {i : Nat} {x : Str} {e : Expr} {te : TE} {pos' : Pos} (hN : X.N.Nodup) (hi : X.N[i]? = some x) (hx : Loc X.env.scope x) (he : PE X e te) (hs : swapsWith e (some (.Name x pos')) pos.line X.env = pure false := by rfl) (hf : X.fn x = true ∨ X.env.scope.names.lookup x = some .local := by first | exact .inl rfl | exact .inr rfl | assumption) :
 PS X (.Assign [.Name x pos'] e pos) (Oy te (Jy i)) := by
 intro pins s σ H D I h
 refine wpAny_Assign_Name (thn (he pins s σ H _ I h) fun v s1 ⟨y, H1, I1, r1, q1⟩ => ?_) hs
 exact Ih I1 hN hi hx r1 (fun s2 I2 => ⟨_, H1, I2, q1⟩) hf
def Wc (i j : Nat) (ta : TA) : TS := fun D σ H => ta σ H fun vs H1 => ∃ v w, vs = [v, w] ∧ D.nx ((σ.set i (some v)).set j (some w)) H1
theorem Wd {i j : Nat} {x y : Str} {a b : Expr} {ta : TA} {px py pt : Pos} {kt k2 pt2} (hc : X.calm = true) (hN : X.N.Nodup) (hi : X.N[i]? = some x) (hj : X.N[j]? = some y) (hij : i ≠ j)
 (hx : X.env.scope.names.lookup x = some .local) (hy : X.env.scope.names.lookup y = some .local) (ha : PA X [a, b] ta)
 (hw : swappedStores [.Tuple [.Name x px, .Name y py] kt pt] (.Tuple [a, b] k2 pt2) X.env = pure (some [x, y]))
 (hs : swapsWithSole [.Tuple [.Name x px, .Name y py] kt pt] (.Tuple [a, b] k2 pt2) pos.line X.env = pure false := by rfl) :
 PS X (.Assign [.Tuple [.Name x px, .Name y py] kt pt] (.Tuple [a, b] k2 pt2) pos) (Wc i j ta) := by
 intro pins s σ H D I h
 rw [exec_Assign_arm]
 refine wpAny_bind (wpAny_standAt ?_)
 rw [hs]
 refine wpAny_bind (wpAny_pure ?_)
 rw [if_neg (by decide)]
 refine wpAny_bind (Tuple_ (thn (ha _ pins s σ H _ I h) fun us s1 ⟨vs, H1, I1, r1, q1⟩ => ?_))
 obtain ⟨v, w, e1, q1⟩ := q1
 subst e1
 obtain ⟨u1, u2, rfl, rv, rw'⟩ : ∃ u1 u2, us = [u1, u2] ∧ RelV v u1 ∧ RelV w u2 := by
  cases r1 with
  | cons p q =>
   cases q with
   | cons p' q' =>
    cases q'
    exact ⟨_, _, rfl, p, p'⟩
 refine wpAny_newObj_type ?_ (by show 2 ≤ sizeLine; decide)
 have I2 : Inv X pins σ H1 { s1 with heap := s1.heap.push { cls := .type "tuple", data := .seq [u1, u2].toArray } } := I1.kept (t' := s1.toks) fun b o e => Heap.get?_push_of_some _ e
 rw [hw]
 refine wpAny_bind (wpAny_pure ?_)
 show wpAny (model X.prog X.w) X.A (do rule "assign.swapped-stores"; let items ← unpackItems (.ref s1.heap.objs.size) 2 none; assignInOrder [fun v => bindName X.env y v, fun v => bindName X.env x v] items.reverse; pure Flow.next) _ _ _
 refine wpAny_bind (wpAny_rule (wpAny_bind (unpackItems_tuple (items := #[u1, u2]) (I.ok.hd hc) (IsTup.new s1.heap _) fun h' hx' => ?_)))
 have I3 := I2.kept (h' := h') (t' := s1.toks) fun b o e => hx' b o (Nat.ne_of_lt (Heap.lt_size e)) e
 show wpAny _ _ (assignInOrder [fun v => bindName X.env y v, fun v => bindName X.env x v] [u2, u1] >>= fun _ => pure Flow.next) _ _ _
 refine wpAny_bind (assignInOrder_cons (wpAny_bindName (Ih I3 hN hj (.inl hy) rw' (fun s2 I4 => ?_) (.inr hy))))
 refine assignInOrder_cons (wpAny_bindName (Ih I4 hN hi (.inl hx) rv (fun s3 I5 => assignInOrder_nil (wpAny_pure ?_)) (.inr hx)))
 rw [List.set_comm _ _ (Ne.symm hij)] at I5
 exact ⟨_, H1, I5, q1⟩
def oz (i : Nat) (te : TE) (ti : TIp) : TS := fun D σ H => ∃ x, σ[i]? = some (some x) ∧ te σ H fun y H1 => ti x y H1 fun z H2 => D.nx (σ.set i (some z)) H2
theorem we {i : Nat} {x : Str} {e : Expr} {te : TE} {op : Operator} {ti : TIp} {pos' : Pos} (hN : X.N.Nodup) (hi : X.N[i]? = some x) (hx : Loc X.env.scope x) (he : PE X e te) (ho : PIp X op ti) (hf : X.fn x = true ∨ X.env.scope.names.lookup x = some .local := by first | exact .inl rfl | exact .inr rfl | assumption) :
 PS X (.AugAssign (.Name x pos') op e pos) (oz i te ti) := by
 intro pins s σ H D I h
 obtain ⟨v, e1, h⟩ := h
 obtain ⟨m, hn, hl⟩ := I.loc
 have vis : Vis X.env.scope x := by rcases hx with k | k; exact .inl k; exact .inr (.inl k)
 obtain ⟨u, r, l⟩ := hl i x v hi e1 vis
 refine wpAny_AugAssign_Name ?_
 have go : wpAny (model X.prog X.w) X.A (eval e X.env) (fun w s₂ => wpAny (model X.prog X.w) X.A (inplaceOp op u w) (fun r s₃ => wpAny (model X.prog X.w) X.A (storeName X.env x r) (fun _ => SP X pins D .next) X.xe s₃) X.xe s₂) X.xe s := by
  refine thn (he pins s σ H _ I h) fun w s1 ⟨y, H1, I1, r1, q1⟩ => ?_
  refine thn (ho pins s1 σ H1 v y u w _ I1 r r1 q1) fun z s2 ⟨zv, H2, I2, r2, q2⟩ => ?_
  exact Ih I2 hN hi hx r2 (fun s3 I3 => ⟨_, H2, I3, q2⟩) hf
 rcases l with ⟨hk, hm⟩ | ⟨hk, c, hc, hcell⟩
 · exact wpAny_loadName_local I.ok.kind hk hn hm go
 · rcases hk with hk | hk
   · exact wpAny_loadName_cell I.ok.kind hk hc hcell go
   · rcases hx with k | k
     · have : X.env.scope.names.lookup x = some .free := hk
       rw [k] at this; cases this
     · have : X.env.scope.names.lookup x = some .free := hk
       rw [k] at this; cases this
end
section
variable {X : Cx} {pos : Pos}
def We (c : TT) (tb : TS) : TS := fun D σ H => ∃ W : Nat → St → Hp → Prop, (∃ m, W m σ H) ∧ ∀ m σ H, W m σ H →
 c σ H fun b H1 => if b = true then ∃ N : St → Hp → Prop, (∀ σ' H', N σ' H' → ∃ m', m' < m ∧ W m' σ' H') ∧ tb { D with nx := N, ct := N, bk := D.nx } σ H1 else D.nx σ H1
theorem Wf {c : Expr} {body : List Stmt} {tc : TT} {tb : TS} (hp : PassesOwn (model X.prog X.w) X.A X.env X.xe) (hc : PT X c tc) (hb : PSs X body tb) : PS X (.While c body [] pos) (We tc tb) := by
 intro pins s σ H D I h
 obtain ⟨W, ⟨m0, w0⟩, turn⟩ := h
 refine wpAny_While (codeAny_whileLoop (fun n s' => ∃ σ' H', Inv X pins σ' H' s' ∧ W n σ' H') ?_ m0 ⟨σ, H, I, w0⟩)
 rintro n s1 ⟨σ1, H1, I1, w1⟩
 refine wpAny_passesOwn hp (thn (hc pins s1 σ1 H1 _ I1 (turn n σ1 H1 w1)) fun b s2 ⟨H2, I2, q2⟩ => ?_)
 cases b with
 | true =>
  obtain ⟨N, hN, q2⟩ := q2
  rw [if_pos rfl]
  refine wpAny_passesOwn hp (thn (hb pins s2 σ1 H2 _ I2 q2) fun f s3 q3 => ?_)
  cases f with
  | next =>
   obtain ⟨σ3, H3, I3, n3⟩ := q3
   obtain ⟨m', hm, w3⟩ := hN σ3 H3 n3
   exact ⟨m', hm, σ3, H3, I3, w3⟩
  | cont =>
   obtain ⟨σ3, H3, I3, n3⟩ := q3
   obtain ⟨m', hm, w3⟩ := hN σ3 H3 n3
   exact ⟨m', hm, σ3, H3, I3, w3⟩
  | brk => exact q3
  | ret v => exact q3
 | false =>
  rw [if_neg Bool.false_ne_true]
  exact wpAny_execs_nil ⟨σ1, H2, I2, q2⟩
end
structure It where
 go : Nat → Hp → Prop
 yld : Nat → Hp → V → Hp → Prop
 stop : Nat → Hp → Prop
def Cv (X : Cx) (pins : List (Addr × Obj)) (H : Hp) (b : Addr) : Prop :=
 H b = none ∧ b ≠ X.env.locals ∧ b ∉ X.fs ∧ (b ∈ X.ex ∨ X.s₀.heap.objs.size ≤ b) ∧ (∀ x c, X.env.cells.lookup x = some c → c ≠ b) ∧ ∀ p ∈ X.pn ++ pins, p.1 ≠ b
theorem Inv.fpOk {X : Cx} {pins : List (Addr × Obj)} {σ : St} {H H' : Hp} {s : Shared} {b : Addr} (I : Inv X pins σ H s) (hb : s.heap.objs.size ≤ b) (hn : H' b = none) : Cv X pins H' b := by
 refine ⟨hn, Nat.ne_of_gt (Nat.lt_of_lt_of_le I.lt hb), I.nofs hb, .inr (Nat.le_trans I.sz hb), fun x c e z => ?_, fun p hp z => ?_⟩
 · obtain ⟨v, q⟩ := I.cell x c e
   exact absurd (Nat.lt_of_lt_of_le q.lt (by rw [z]; exact hb)) (Nat.lt_irrefl _)
 · exact absurd (Nat.lt_of_lt_of_le (Heap.lt_size (I.pin p hp).1) (by rw [z]; exact hb)) (Nat.lt_irrefl _)
structure Turn (P : Program) (w : World) (K : W.Frag) (tg : Expr) (J : It) (fp : List Addr) (it : Addr) (tn : Nat → Heap → Prop) : Prop where
 mem : it ∈ fp
 obj : ∀ i h, tn i h → ∀ b ∈ fp, ∃ o, h.get? b = some o ∧ ∀ v, o.data ≠ .cell v
 keep : ∀ i h h', tn i h → (∀ b ∈ fp, ∀ o, h.get? b = some o → h'.get? b = some o) → tn i h'
 item : ∀ (X : Cx), X.prog = P → X.w = w → X.K = K → X.calm = true → ∀ (i : Nat) (pins : List (Addr × Obj)) (s : Shared) (σ : St) (H : Hp) (E : Value → Shared → Prop), Inv X pins σ H s → (∀ b ∈ fp, Cv X pins H b) → tn i s.heap → J.go i H →
  wpAny (model P w) X.A (pyNext (.ref it)) (fun r s1 => ∃ u, r = some u ∧
   wpAny (model P w) X.A (letOwnedTupleGo tg (.ref it) u) (fun _ s2 => ∃ x H', Inv X pins σ H' s2 ∧ RelV x u ∧ J.yld i H x H' ∧ tn (i + 1) s2.heap ∧ ∀ b ∈ fp, H' b = none) E s1) E s
 done : ∀ (X : Cx), X.prog = P → X.w = w → X.K = K → X.calm = true → ∀ (i : Nat) (pins : List (Addr × Obj)) (s : Shared) (σ : St) (H : Hp) (E : Value → Shared → Prop), Inv X pins σ H s → (∀ b ∈ fp, Cv X pins H b) → tn i s.heap → J.stop i H →
  wpAny (model P w) X.A (pyNext (.ref it)) (fun r s1 => r = none ∧ Inv X pins σ H s1) E s
 self : ∀ (A : Around) (i : Nat) (s : Shared) (Q : Value → Shared → Prop) (E : Value → Shared → Prop), tn i s.heap → Q (.ref it) s → wpAny (model P w) A (pyIter (.ref it)) Q E s
abbrev TI := St → Hp → (It → Hp → Prop) → Prop
def PIE (X : Cx) (pins : List (Addr × Obj)) (σ : St) (tg : Expr) (R : It → Hp → Prop) (itv : Value) (s2 : Shared) : Prop :=
 ∃ (it : Addr) (fp : List Addr) (tn : Nat → Heap → Prop) (J : It) (H' : Hp), itv = .ref it ∧ Inv X pins σ H' s2 ∧ Turn X.prog X.w X.K tg J fp it tn ∧ tn 0 s2.heap ∧ (∀ b ∈ fp, Cv X pins H' b) ∧ R J H'
def PI (X : Cx) (tg iter : Expr) (wi : TI) : Prop :=
 ∀ (pins : List (Addr × Obj)) (s : Shared) (σ : St) (H : Hp) (R : It → Hp → Prop), Inv X pins σ H s → wi σ H R →
  wpAny (model X.prog X.w) X.A (eval iter X.env) (fun v s1 => wpAny (model X.prog X.w) X.A (pyIter v) (PIE X pins σ tg R) X.xe s1) X.xe s
theorem Jz (ho : s.heap.get? it = some o) (hc : o.cls = .type n) (hd : o.data = .fields vs)
    (hn : ["enumerate", "zip", "dict_itemiterator", "dict_reverseitemiterator", "odict_iterator", "itertools.zip_longest", "itertools.pairwise"].contains n = false) (hQ : Q () s) : wpAny M A (letOwnedTupleGo tg (.ref it) u) Q E s := by
  unfold letOwnedTupleGo
  cases tg <;> first
    | exact wpAny_pure hQ
    | (cases u <;> first
        | exact wpAny_pure hQ
        | (refine wpAny_bind (wpAny_load ho ?_)
           rw [hc, hd]
           show wpAny M A (if (["enumerate", "zip", "dict_itemiterator", "dict_reverseitemiterator", "odict_iterator", "itertools.zip_longest", "itertools.pairwise"].contains n && vs[0]? == some (rawInt _)) = true then _ else _) Q E s
           rw [if_neg (by intro h; rw [hn, Bool.false_and] at h; cases h)]
           exact wpAny_pure hQ))
def Itl (K : W.Frag) (a : Addr) : It :=
 ⟨fun i H => ∃ xs x, SqL K H a xs ∧ xs[i]? = some x, fun i H x H' => H' = H ∧ ∀ xs, SqL K H a xs → xs[i]? = some x, fun i H => ∃ xs, SqL K H a xs ∧ xs.length ≤ i⟩
def Itt (K : W.Frag) (a : Addr) : It :=
 ⟨fun i H => ∃ xs x, SqT K H a xs ∧ xs[i]? = some x, fun i H x H' => H' = H ∧ ∀ xs, SqT K H a xs → xs[i]? = some x, fun i H => ∃ xs, SqT K H a xs ∧ xs.length ≤ i⟩
def Itr (lo : Int) (n : Nat) : It := ⟨fun i _ => i < n, fun i H x H' => H' = H ∧ x = .int (lo + i), fun i _ => n ≤ i⟩
theorem wg {P : Program} {w : World} {K : W.Frag} {tg : Expr} (a it : Addr) : Turn P w K tg (Itl K a) [it] it (fun i h => h.IsListIter it a i) where
 mem := by simp
 obj := fun i h st b hb => by
  have e : b = it := by simpa using hb
  subst e
  obtain ⟨o, e, c, d⟩ := st
  exact ⟨o, e, fun v z => by rw [d] at z; cases z⟩
 keep := fun i h h' st k => st.at fun o e => k it (by simp) o e
 item := by
  intro X hP hw hK hc i pins s σ H E I hf st hg
  subst hP hw hK
  obtain ⟨xs, x, hq, hx⟩ := hg
  obtain ⟨its, rv, p, hz⟩ := I.list hq
  obtain ⟨u, hu, ru⟩ := rv.get hx
  obtain ⟨f0, f1, f2, f3, f4, f5⟩ := hf it (by simp)
  refine wpAny_pyNext_list_item st p.isList (x := u) (by simpa using hu) fun h' st' sb => ?_
  have I1 : Inv X pins σ H { s with heap := h' } := I.turned (t' := s.toks) (fun b o hb e => (sb.2 b hb).trans e) f0 f1 f3 f4 f5
  obtain ⟨o, e, c, d⟩ := id st'
  exact ⟨u, rfl, Jz (s := { s with heap := h' }) e c d (by decide) ⟨x, H, I1, ru, ⟨rfl, fun ys hy => by rw [I.list_inj hy hq]; exact hx⟩, st', fun b hb => (hf b hb).1⟩⟩
 done := by
  intro X hP hw hK hc i pins s σ H E I hf st hg
  subst hP hw hK
  obtain ⟨xs, hq, hx⟩ := hg
  obtain ⟨its, rv, p, hz⟩ := I.list hq
  obtain ⟨f0, f1, f2, f3, f4, f5⟩ := hf it (by simp)
  have hl := rv.length
  exact wpAny_pyNext_list_end (I.ok.hd hc) st p.isList (by simp; omega) fun h' eb => ⟨rfl, I.turned (t' := s.toks) (fun b o hb e => eb b o hb e) f0 f1 f3 f4 f5⟩
 self := fun _ _ _ _ _ st h => wpAny_pyIter_listiter st h
theorem Wg {P : Program} {w : World} {K : W.Frag} {tg : Expr} (a it : Addr) : Turn P w K tg (Itt K a) [it] it (fun i h => h.IsTupleIter it a i) where
 mem := by simp
 obj := fun i h st b hb => by
  have e : b = it := by simpa using hb
  subst e
  obtain ⟨o, e, c, d⟩ := st
  exact ⟨o, e, fun v z => by rw [d] at z; cases z⟩
 keep := fun i h h' st k => st.at fun o e => k it (by simp) o e
 item := by
  intro X hP hw hK hc i pins s σ H E I hf st hg
  subst hP hw hK
  obtain ⟨xs, x, hq, hx⟩ := hg
  obtain ⟨its, rv, p, hz⟩ := I.tuple hq
  obtain ⟨u, hu, ru⟩ := rv.get hx
  obtain ⟨f0, f1, f2, f3, f4, f5⟩ := hf it (by simp)
  refine wpAny_pyNext_tuple_item st (show s.heap.IsTuple a its.toArray from p) (x := u) (by simpa using hu) fun h' st' sb => ?_
  have I1 : Inv X pins σ H { s with heap := h' } := I.turned (t' := s.toks) (fun b o hb e => (sb.2 b hb).trans e) f0 f1 f3 f4 f5
  obtain ⟨o, e, c, d⟩ := id st'
  exact ⟨u, rfl, Jz (s := { s with heap := h' }) e c d (by decide) ⟨x, H, I1, ru, ⟨rfl, fun ys hy => by rw [I.tuple_inj hy hq]; exact hx⟩, st', fun b hb => (hf b hb).1⟩⟩
 done := by
  intro X hP hw hK hc i pins s σ H E I hf st hg
  subst hP hw hK
  obtain ⟨xs, hq, hx⟩ := hg
  obtain ⟨its, rv, p, hz⟩ := I.tuple hq
  obtain ⟨f0, f1, f2, f3, f4, f5⟩ := hf it (by simp)
  have hl := rv.length
  exact wpAny_pyNext_tuple_end (I.ok.hd hc) st (show s.heap.IsTuple a its.toArray from p) (by simp; omega) fun h' eb => ⟨rfl, I.turned (t' := s.toks) (fun b o hb e => eb b o hb e) f0 f1 f3 f4 f5⟩
 self := fun _ _ _ _ _ st h => wpAny_pyIter_tupleiter st h
theorem Wh {P : Program} {w : World} {K : W.Frag} {tg : Expr} (it : Addr) (lo : Int) (n : Nat) : Turn P w K tg (Itr lo n) [it] it (fun i h => IsRangeIter h it (lo + (i : Nat) * 1) ((n : Int) - (i : Nat)) 1) where
 mem := by simp
 obj := fun i h st b hb => by
  have e : b = it := by simpa using hb
  subst e
  exact ⟨_, st, fun v z => by
   have z' : Data.fields _ = Data.cell v := z
   cases z'⟩
 keep := fun i h h' st k => k it (by simp) _ st
 item := by
  intro X hP hw hK hc i pins s σ H E I hf st hg
  subst hP hw hK
  obtain ⟨f0, f1, f2, f3, f4, f5⟩ := hf it (by simp)
  have W := Walks.range (prog := X.prog) (w := X.w) (I.ok.hd hc) it lo 1 n
  refine W.item i s _ _ hg st fun v h' tk hv st' kk => ?_
  obtain ⟨t, rfl⟩ := hv
  have I1 : Inv X pins σ H { s with heap := h', toks := tk } := I.turned (fun b o hb e => kk b o (by simpa using hb) e) f0 f1 f3 f4 f5
  refine ⟨_, rfl, Jz (s := { s with heap := h', toks := tk }) (n := "range_iterator") st' rfl rfl (by decide) ⟨.int (lo + i), H, I1, ⟨t, ?_⟩, ⟨rfl, rfl⟩, st', fun b hb => (hf b hb).1⟩⟩
  rw [Int.mul_one]
 done := by
  intro X hP hw hK hc i pins s σ H E I hf st hg
  subst hP hw hK
  obtain ⟨f0, f1, f2, f3, f4, f5⟩ := hf it (by simp)
  exact wpAny_pyNext_range_end (I.ok.hd hc) st (by have : n ≤ i := hg; omega) fun h' eb => ⟨rfl, I.turned (t' := s.toks) (fun b o hb e => eb b o hb e) f0 f1 f3 f4 f5⟩
 self := fun _ _ _ _ _ st h => wpAny_pyIter_rangeiter st h
section
variable {X : Cx} {tg : Expr}
def Wi (K : W.Frag) (tl : TE) : TI := fun σ H R => tl σ H fun x H1 => ∃ a, x = .ref a ∧ (∃ xs, SqL K H1 a xs) ∧ R (Itl K a) H1
def wj (K : W.Frag) (tl : TE) : TI := fun σ H R => tl σ H fun x H1 => ∃ a, x = .ref a ∧ (∃ xs, SqT K H1 a xs) ∧ R (Itt K a) H1
theorem Oz {l : Expr} {tl : TE} (hl : PE X l tl) : PI X tg l (Wi X.K tl) := by
 intro pins s σ H R I h
 refine thn (hl pins s σ H _ I h) fun v s1 ⟨x, H1, I1, r1, q1⟩ => ?_
 obtain ⟨a, e, ⟨xs, hq⟩, q⟩ := q1
 subst e
 cases r1
 obtain ⟨its, rv, p, hz⟩ := I1.list hq
 refine wpAny_pyIter_list p.isList ?_
 refine ⟨s1.heap.objs.size, [s1.heap.objs.size], _, _, H1, rfl, I1.kept (t' := s1.toks) fun b o e => Heap.get?_push_of_some _ e, wg a _, ⟨_, Heap.get?_push_size _ rfl, rfl, rfl⟩, fun b hb => ?_, q⟩
 have e : b = s1.heap.objs.size := by simpa using hb
 subst e
 exact I1.fpOk (Nat.le_refl _) (I1.hok.fresh (Nat.le_refl _))
theorem Pa {l : Expr} {tl : TE} (hl : PE X l tl) : PI X tg l (wj X.K tl) := by
 intro pins s σ H R I h
 refine thn (hl pins s σ H _ I h) fun v s1 ⟨x, H1, I1, r1, q1⟩ => ?_
 obtain ⟨a, e, ⟨xs, hq⟩, q⟩ := q1
 subst e
 cases r1
 obtain ⟨its, rv, p, hz⟩ := I1.tuple hq
 refine wpAny_pyIter_tuple (show s1.heap.IsTuple a its.toArray from p) ?_
 refine ⟨s1.heap.objs.size, [s1.heap.objs.size], _, _, H1, rfl, I1.kept (t' := s1.toks) fun b o e => Heap.get?_push_of_some _ e, Wg a _, ⟨_, Heap.get?_push_size _ rfl, rfl, rfl⟩, fun b hb => ?_, q⟩
 have e : b = s1.heap.objs.size := by simpa using hb
 subst e
 exact I1.fpOk (Nat.le_refl _) (I1.hok.fresh (Nat.le_refl _))
theorem Wj {pins : List (Addr × Obj)} {σ : St} {H : Hp} {s : Shared} {R : It → Hp → Prop} {E : Value → Shared → Prop} {lo hi : Int} {t u v : Tok} {tk : Nat} (I : Inv X pins σ H s) (h1 : -(2 ^ 62) ≤ lo) (h2 : lo < 2 ^ 62) (h3 : -(2 ^ 62) ≤ hi) (h4 : hi < 2 ^ 62)
 (q : R (Itr lo (hi - lo).toNat) H) : wpAny (model X.prog X.w) X.A (pyIter (.ref s.heap.objs.size)) (PIE X pins σ tg R) E { s with heap := s.heap.push { cls := .type "range", data := .fields #[.int lo t, .int hi u, .int 1 v] }, toks := tk } := by
 refine wpAny_pyIter_range (IsRange.new ..) (small_one h1 h2 h3 h4) ?_
 have I1 : Inv X pins σ H { s with heap := s.heap.push { cls := .type "range", data := .fields #[.int lo t, .int hi u, .int 1 v] }, toks := tk } := I.kept fun b o e => Heap.get?_push_of_some _ e
 refine ⟨(s.heap.push { cls := .type "range", data := .fields #[.int lo t, .int hi u, .int 1 v] }).objs.size, [(s.heap.push { cls := .type "range", data := .fields #[.int lo t, .int hi u, .int 1 v] }).objs.size], _, _, H, rfl,
  I1.kept (t' := tk) fun b o e => Heap.get?_push_of_some _ e, Wh _ lo (hi - lo).toNat, ?_, fun b hb => ?_, q⟩
 · have e1 : lo + ((0 : Nat) : Int) * 1 = lo := by simp
   have e2 : (((hi - lo).toNat : Nat) : Int) - ((0 : Nat) : Int) = Builtin.Range.rangeSize lo hi 1 := by rw [rangeSize_one]; split <;> omega
   show IsRangeIter _ _ (lo + ((0 : Nat) : Int) * 1) ((((hi - lo).toNat : Nat) : Int) - ((0 : Nat) : Int)) 1
   rw [e1, e2]
   exact Heap.get?_push_size _ rfl
 · have e : b = (s.heap.push { cls := .type "range", data := .fields #[.int lo t, .int hi u, .int 1 v] }).objs.size := by simpa using hb
   subst e
   exact I1.fpOk (Nat.le_refl _) (I1.hok.fresh (Nat.le_refl _))
def Wk (ta : TA) : TI := fun σ H R => ta σ H fun vs H1 => ∃ j : Int, vs = [.int j] ∧ -(2 ^ 62) ≤ j ∧ j < 2 ^ 62 ∧ R (Itr 0 j.toNat) H1
theorem Wl {a : Expr} {ta : TA} {p pos : Pos} (hg : Gl X "range") (hm : X.mg "range" = none) (ha : PA X [a] ta) (hs : starEach [a] X.env = [(false, eval a X.env)] := by rfl) : PI X tg (.Call (.Name "range" p) [a] [] pos) (Wk ta) := by
 intro pins s σ H R I h
 refine Call_ (gz I hg hm boot_range (PyProof.Rows.callWith_type1 (thn (ha pos pins s σ H _ I h) fun us s1 ⟨vs, H1, I1, r1, q1⟩ => ?_) hs rfl))
 obtain ⟨j, e, q1, q2, q⟩ := q1
 subst e
 cases r1 with
 | cons r rr =>
  cases rr
  obtain ⟨t, rfl⟩ := r
  exact call_range_1 (Wj I1 (by omega) (by omega) q1 q2 (by simpa using q))
def wm (wi : TI) (g : TG) (tb : TS) : TS := fun D σ H => wi σ H fun J H1 => ∃ W : Nat → Nat → St → Hp → Prop, (∃ m, W 0 m σ H1) ∧ ∀ i m σ H, W i m σ H →
 (J.stop i H ∧ D.nx σ H) ∨ (J.go i H ∧ ∃ N : St → Hp → Prop, (∀ σ' H', N σ' H' → ∃ m', m' < m ∧ W (i + 1) m' σ' H') ∧ ∀ x H', J.yld i H x H' → g x σ H' fun σ2 H2 => tb { D with nx := N, ct := N, bk := D.nx } σ2 H2)
def ik (fp : List Addr) (h : Heap) : List (Addr × Obj) := fp.filterMap fun b => (h.get? b).map fun o => (b, o)
theorem Ik {fp : List Addr} {h : Heap} {b : Addr} {o : Obj} (hb : b ∈ fp) (e : h.get? b = some o) : (b, o) ∈ ik fp h := List.mem_filterMap.mpr ⟨b, hb, by rw [e]; rfl⟩
theorem Wm (hp : p ∈ ik fp h) : p.1 ∈ fp ∧ h.get? p.1 = some p.2 := by
 obtain ⟨b, hb, e⟩ := List.mem_filterMap.mp hp
 cases q : h.get? b with
 | none => rw [q] at e; cases e
 | some o =>
  rw [q] at e
  have e' : (b, o) = p := Option.some.inj e
  subst e'
  exact ⟨hb, q⟩
theorem Inv.pinned {pins : List (Addr × Obj)} {σ : St} {H : Hp} {s : Shared} {fp : List Addr} (I : Inv X pins σ H s) (hf : ∀ b ∈ fp, Cv X pins H b) (ho : ∀ b ∈ fp, ∃ o, s.heap.get? b = some o ∧ ∀ v, o.data ≠ .cell v) : Inv X (pins ++ ik fp s.heap) σ H s :=
 I.pins_of fun p hp => (List.mem_append.mp hp).elim (fun z => I.pin p (List.mem_append_right _ z)) fun z => by
  obtain ⟨hb, e⟩ := Wm z
  obtain ⟨f0, f1, f2, _⟩ := hf p.1 hb
  obtain ⟨o, e', d⟩ := ho p.1 hb
  rw [e] at e'; cases e'
  exact ⟨e, f0, f1, f2, d⟩
theorem Inv.unpinned {pins pl : List (Addr × Obj)} {σ : St} {H : Hp} {s : Shared} (I : Inv X (pins ++ pl) σ H s) : Inv X pins σ H s := I.pins_of fun p hp => I.pin p (List.mem_append_right _ (List.mem_append_left _ hp))
theorem ka {iter : Expr} {body : List Stmt} {wi : TI} {g : TG} {tb : TS} {pos : Pos} (hp : PassesOwn (model X.prog X.w) X.A X.env X.xe) (hc : X.calm = true) (hi : PI X tg iter wi) (hg : PG X tg g) (hb : PSs X body tb)
 (hs : ∀ x, foldedSetIterable iter X.env x = pure x := by intro _; rfl) : PS X (.For tg iter body [] pos) (wm wi g tb) := by
 intro pins s σ H D I h
 refine wpAny_For (thn (hi pins s σ H _ I h) fun v s1 h1 => thn h1 fun itv s2 h2 => ?_) hs
 obtain ⟨it, fp, tn, J, H2, e, I2, T, st2, f2, W, ⟨m0, w0⟩, turn⟩ := h2
 subst e
 have stat : ∀ {H' : Hp}, (∀ b ∈ fp, H' b = none) → ∀ b ∈ fp, Cv X pins H' b := fun hn b hb => ⟨hn b hb, (f2 b hb).2⟩
 refine codeAny_forLoop_any (fun n s' => ∃ i σ' H', Inv X pins σ' H' s' ∧ tn i s'.heap ∧ (∀ b ∈ fp, H' b = none) ∧ W i n σ' H') ?_ m0 ⟨0, σ, H2, I2, st2, fun b hb => (f2 b hb).1, w0⟩
 rintro n s3 ⟨i, σ3, H3, I3, st3, fr3, w3⟩
 rcases turn i n σ3 H3 w3 with ⟨stop, qn⟩ | ⟨go, N, hN, step⟩
 · refine wpAny_passesOwn hp (thn (T.done X rfl rfl rfl hc i pins s3 σ3 H3 X.xe I3 (stat fr3) st3 stop) fun r s4 ⟨hr, I4⟩ => ?_)
   subst hr
   exact wpAny_execs_nil ⟨σ3, H3, I4, qn⟩
 · refine wpAny_passesOwn hp (thn (T.item X rfl rfl rfl hc i pins s3 σ3 H3 X.xe I3 (stat fr3) st3 go) fun r s4 ⟨u, hr, h4⟩ => ?_)
   subst hr
   refine wpAny_passesOwn hp (thn h4 fun _ s5 ⟨x, H5, I5, r5, y5, st5, fr5⟩ => ?_)
   have I5' := I5.pinned (stat fr5) (T.obj _ _ st5)
   refine wpAny_passesOwn hp (thn (hg _ s5 σ3 H5 x u _ I5' r5 (step x H5 y5)) fun _ s6 ⟨σ6, H6, I6, q6⟩ => ?_)
   refine wpAny_passesOwn hp (thn (hb _ s6 σ6 H6 _ I6 q6) fun f s7 q7 => ?_)
   have again : ∀ {σ7 : St} {H7 : Hp}, Inv X (pins ++ ik fp s5.heap) σ7 H7 s7 → N σ7 H7 → ∃ m, m < n ∧ ∃ i σ' H', Inv X pins σ' H' s7 ∧ tn i s7.heap ∧ (∀ b ∈ fp, H' b = none) ∧ W i m σ' H' := fun {σ7 H7} I7 n7 => by
    obtain ⟨m', hm, w7⟩ := hN σ7 H7 n7
    refine ⟨m', hm, i + 1, σ7, H7, I7.unpinned, T.keep _ _ _ st5 fun b hb o e => (I7.pin (b, o) (List.mem_append_right _ (List.mem_append_right _ (Ik hb e)))).1, fun b hb => ?_, w7⟩
    obtain ⟨o, e, d⟩ := T.obj _ _ st5 b hb
    exact (I7.pin (b, o) (List.mem_append_right _ (List.mem_append_right _ (Ik hb e)))).2.1
   cases f with
   | next => obtain ⟨σ7, H7, I7, n7⟩ := q7; exact again I7 n7
   | cont => obtain ⟨σ7, H7, I7, n7⟩ := q7; exact again I7 n7
   | brk => obtain ⟨σ7, H7, I7, q7⟩ := q7; exact ⟨σ7, H7, I7.unpinned, q7⟩
   | ret v => obtain ⟨x7, σ7, H7, I7, r7, q7⟩ := q7; exact ⟨x7, σ7, H7, I7.unpinned, r7, q7⟩
end
abbrev R2 := V → V → Hp → VK → Prop
def OpR (X : Cx) (f : Value → Value → Sem Value) (r : R2) : Prop :=
 ∀ (pins : List (Addr × Obj)) (s : Shared) (σ : St) (H : Hp) (x y : V) (v u : Value) (Q : VK), Inv X pins σ H s → RelV x v → RelV y u → r x y H Q →
  wpAny (model X.prog X.w) X.A (f v u) (EP X pins σ Q) X.xe s
def UnR (X : Cx) (f : Value → Sem Value) (r : V → Hp → VK → Prop) : Prop :=
 ∀ (pins : List (Addr × Obj)) (s : Shared) (σ : St) (H : Hp) (x : V) (v : Value) (Q : VK), Inv X pins σ H s → RelV x v → r x H Q →
  wpAny (model X.prog X.w) X.A (f v) (EP X pins σ Q) X.xe s
def dm (X : Cx) (f : Value) (r : List V → Hp → VK → Prop) : Prop :=
 ∀ (pins : List (Addr × Obj)) (s : Shared) (σ : St) (H : Hp) (xs : List V) (us : List Value) (Q : VK), Inv X pins σ H s → Vals xs us → r xs H Q →
  wpAny (model X.prog X.w) X.A (call f us) (EP X pins σ Q) X.xe s
def Wn (X : Cx) (r : V → Hp → (Bool → Hp → Prop) → Prop) : Prop :=
 ∀ (pins : List (Addr × Obj)) (s : Shared) (σ : St) (H : Hp) (x : V) (v : Value) (Q : Bool → Hp → Prop), Inv X pins σ H s → RelV x v → r x H Q →
  wpAny (model X.prog X.w) X.A (truthy v) (TP X pins σ Q) X.xe s
def tOp (r : R2) (ta tb : TE) : TE := fun σ H Q => ta σ H fun x H1 => tb σ H1 fun y H2 => r x y H2 Q
def tUn (r : V → Hp → VK → Prop) (ta : TE) : TE := fun σ H Q => ta σ H fun x H1 => r x H1 Q
def rI (C : Int → Int → Prop) (g : Int → Int → V) : R2 := fun x y H Q => ∃ i j, x = .int i ∧ y = .int j ∧ C i j ∧ Q (g i j) H
def rI0 (g : Int → Int → V) : R2 := fun x y H Q => ∃ i j, x = .int i ∧ y = .int j ∧ Q (g i j) H
def rU (g : Int → V) : V → Hp → VK → Prop := fun x H Q => ∃ i, x = .int i ∧ Q (g i) H
section
variable {X : Cx} {a b c : Expr} {ta tb tc : TE} {pos : Pos}
theorem ly (ha : PE X a ta) (hb : PE X b tb) {pins : List (Addr × Obj)} {s : Shared} {σ : St} {H : Hp} {R : V → V → Hp → Prop} (I : Inv X pins σ H s)
 (h : ta σ H fun x H1 => tb σ H1 fun y H2 => R x y H2) {Q : Value → Shared → Prop} {f : Value → Value → Sem Value}
 (hf : ∀ v u s2 x y H2, Inv X pins σ H2 s2 → RelV x v → RelV y u → R x y H2 → wpAny (model X.prog X.w) X.A (f v u) Q X.xe s2) :
 wpAny (model X.prog X.w) X.A (eval a X.env) (fun v s₁ => wpAny (model X.prog X.w) X.A (eval b X.env) (fun u s₂ => wpAny (model X.prog X.w) X.A (f v u) Q X.xe s₂) X.xe s₁) X.xe s := by
 refine thn (ha pins s σ H _ I h) fun v s1 ⟨x, H1, I1, r1, q1⟩ => ?_
 refine thn (hb pins s1 σ H1 _ I1 q1) fun u s2 ⟨y, H2, I2, r2, q2⟩ => ?_
 exact hf v u s2 x y H2 I2 r1 r2 q2
theorem il {op : Operator} {r : R2} (ho : OpR X (binaryOp op) r) (ha : PE X a ta) (hb : PE X b tb) : PE X (.BinOp a op b pos) (tOp r ta tb) := by
 intro pins s σ H Q I h
 exact wpAny_BinOp (ly ha hb I h fun v u s2 x y H2 I2 rx ry q => ho pins s2 σ H2 x y v u Q I2 rx ry q)
theorem wo {op : UnaryOp} {r : V → Hp → VK → Prop} (ho : UnR X (unaryOp op) r) (ha : PE X a ta) : PE X (.UnaryOp op a pos) (tUn r ta) := by
 intro pins s σ H Q I h
 exact UnaryOp_ (thn (ha pins s σ H _ I h) fun v s1 ⟨x, H1, I1, r1, q1⟩ => ho pins s1 σ H1 x v Q I1 r1 q1)
theorem opI {f : Value → Value → Sem Value} {C : Int → Int → Prop} {g : Int → Int → Int}
 (rule : ∀ (i j : Int) (t u : Tok) (s : Shared) (Q : Value → Shared → Prop) (E : Value → Shared → Prop), C i j → Q (.int (g i j) s.toks) { s with toks := s.toks + 1 } → wpAny (model X.prog X.w) X.A (f (.int i t) (.int j u)) Q E s) :
 OpR X f (rI C fun i j => .int (g i j)) := by
 intro pins s σ H x y v u Q I rx ry h
 obtain ⟨i, j, rfl, rfl, hc, q⟩ := h
 obtain ⟨t, rfl⟩ := rx
 obtain ⟨t', rfl⟩ := ry
 exact rule i j t t' s _ _ hc ⟨.int (g i j), H, I.tok _, ⟨_, rfl⟩, q⟩
theorem pb {f : Value → Value → Sem Value} {g : Int → Int → Int}
 (rule : ∀ (i j : Int) (t u : Tok) (s : Shared) (Q : Value → Shared → Prop) (E : Value → Shared → Prop), Q (.int (g i j) s.toks) { s with toks := s.toks + 1 } → wpAny (model X.prog X.w) X.A (f (.int i t) (.int j u)) Q E s) :
 OpR X f (rI0 fun i j => .int (g i j)) := by
 intro pins s σ H x y v u Q I rx ry h
 obtain ⟨i, j, rfl, rfl, q⟩ := h
 obtain ⟨t, rfl⟩ := rx
 obtain ⟨t', rfl⟩ := ry
 exact rule i j t t' s _ _ ⟨.int (g i j), H, I.tok _, ⟨_, rfl⟩, q⟩
theorem Ka {f : Value → Value → Sem Value} {g : Int → Int → Bool}
 (rule : ∀ (i j : Int) (t u : Tok) (s : Shared) (Q : Value → Shared → Prop) (E : Value → Shared → Prop), Q (.bool (g i j)) s → wpAny (model X.prog X.w) X.A (f (.int i t) (.int j u)) Q E s) :
 OpR X f (rI0 fun i j => .bl (g i j)) := by
 intro pins s σ H x y v u Q I rx ry h
 obtain ⟨i, j, rfl, rfl, q⟩ := h
 obtain ⟨t, rfl⟩ := rx
 obtain ⟨t', rfl⟩ := ry
 exact rule i j t t' s _ _ ⟨.bl (g i j), H, I, rfl, q⟩
def Wo (i j : Int) : Prop := 0 ≤ j ∧ j ≤ 1000000 ∧ i.natAbs < 2 ^ 64
theorem wq : OpR X (binaryOp .Add) (rI0 fun i j => .int (i + j)) := pb fun _ _ _ _ _ _ _ q => add_int q
theorem Wq : OpR X (binaryOp .Sub) (rI0 fun i j => .int (i - j)) := pb fun _ _ _ _ _ _ _ q => sub_int q
theorem Ws : OpR X (binaryOp .Mod) (rI (fun _ j => j ≠ 0) fun i j => .int (i.fmod j)) := opI fun _ _ _ _ _ _ _ hc q => mod_int' hc q
theorem wt : OpR X (binaryOp .Pow) (rI Wo fun i j => .int (i ^ j.toNat)) := opI fun _ _ _ _ _ _ _ hc q => pow_int_small hc.1 hc.2.1 hc.2.2 q
theorem unI {f : Value → Sem Value} {g : Int → Int}
 (rule : ∀ (i : Int) (t : Tok) (s : Shared) (Q : Value → Shared → Prop) (E : Value → Shared → Prop), Q (.int (g i) s.toks) { s with toks := s.toks + 1 } → wpAny (model X.prog X.w) X.A (f (.int i t)) Q E s) :
 UnR X f (rU fun i => .int (g i)) := by
 intro pins s σ H x v Q I rx h
 obtain ⟨i, rfl, q⟩ := h
 obtain ⟨t, rfl⟩ := rx
 exact rule i t s _ _ ⟨.int (g i), H, I.tok _, ⟨_, rfl⟩, q⟩
theorem Wt : UnR X (unaryOp .USub) (rU fun i => .int (-i)) := unI fun _ _ _ _ _ q => neg_int q
end
section
variable {X : Cx} {a b c : Expr} {ta tb tc : TE} {pos : Pos}
theorem Kb {σ : St} (I : Inv X pins σ H s) (q : Q (.bl k) H) (e : k = k') : EP X pins σ Q (.bool k') s := by
 subst e
 exact ⟨.bl k, H, I, rfl, q⟩
theorem wu : OpR X (compareOp .Lt) (rI0 fun i j => .bl (decide (i < j))) := Ka fun _ _ _ _ _ _ _ q => lt_int q
theorem Wu : OpR X (compareOp .LtE) (rI0 fun i j => .bl (decide (i ≤ j))) := Ka fun _ _ _ _ _ _ _ q => le_int q
theorem Wv : OpR X (compareOp .Gt) (rI0 fun i j => .bl (decide (j < i))) := Ka fun _ _ _ _ _ _ _ q => gt_int q
theorem Ww : OpR X (compareOp .GtE) (rI0 fun i j => .bl (decide (j ≤ i))) := Ka fun _ _ _ _ _ _ _ q => ge_int q
theorem wx : OpR X (compareOp .In) (fun x y H Q => ∃ i j, x = .str i ∧ y = .str j ∧ Q (.bl (!(Builtin.Str.occurrences j i 0 j.length 1).isEmpty)) H) := by
 intro pins s σ H x y v u Q I rx ry h
 obtain ⟨i, j, rfl, rfl, q⟩ := h
 obtain ⟨t, rfl⟩ := rx
 obtain ⟨t', rfl⟩ := ry
 exact in_str (Kb I q rfl)
theorem Wx : OpR X (compareOp .Is) (fun x y H Q => y = .non ∧ Q (.bl (decide (x = .non))) H) := by
 intro pins s σ H x y v u Q I rx ry h
 obtain ⟨rfl, q⟩ := h
 cases ry
 refine is_none_gen (Kb I q ?_)
 cases x <;> first
  | (cases rx; rfl)
  | (obtain ⟨t, rfl⟩ := rx; rfl)
theorem wy : OpR X (compareOp .IsNot) (fun x y H Q => y = .non ∧ Q (.bl (!decide (x = .non))) H) := by
 intro pins s σ H x y v u Q I rx ry h
 obtain ⟨rfl, q⟩ := h
 cases ry
 refine isnot_none_gen (Kb I q ?_)
 cases x <;> first
  | (cases rx; rfl)
  | (obtain ⟨t, rfl⟩ := rx; rfl)
theorem Wy : OpR X (compareOp .NotIn) (fun x y H Q => ∃ i j, x = .str i ∧ y = .str j ∧ Q (.bl (!(!(Builtin.Str.occurrences j i 0 j.length 1).isEmpty))) H) := by
 intro pins s σ H x y v u Q I rx ry h
 obtain ⟨i, j, rfl, rfl, q⟩ := h
 obtain ⟨t, rfl⟩ := rx
 obtain ⟨t', rfl⟩ := ry
 exact notIn_str (Kb I q rfl)
theorem OpR.or (h : OpR X f r) (h' : OpR X f r') : OpR X f (fun x y H Q => r x y H Q ∨ r' x y H Q) := by
 intro pins s σ H x y v u Q I rx ry q
 rcases q with q | q
 · exact h pins s σ H x y v u Q I rx ry q
 · exact h' pins s σ H x y v u Q I rx ry q
theorem gd (b : Expr) (h : op ≠ .In := by decide) (h2 : op ≠ .NotIn := by decide) : behindInMarks op b = false := by
 have e1 : (op == CmpOp.In) = false := by cases op <;> first | rfl | exact absurd rfl h
 have e2 : (op == CmpOp.NotIn) = false := by cases op <;> first | rfl | exact absurd rfl h2
 cases b <;> simp [behindInMarks, e1, e2]
theorem Ly (ho : OpR X (compareOp op) r) (ha : PE X a ta) (hb : PE X b tb) (hm : behindInMarks op b = false) : PE X (.Compare a [op] [b] pos) (tOp r ta tb) := by
 intro pins s σ H Q I h
 exact wpAny_Compare1 (ly ha hb I h fun v u s2 x y H2 I2 rx ry q => ho pins s2 σ H2 x y v u Q I2 rx ry q) hm
def Pb (t : TE) : TT := fun σ H Q => t σ H fun x H' => ∃ k, x = .bl k ∧ Q k H'
theorem Gd {op : CmpOp} {r : R2} (ho : OpR X (compareOp op) r) (ha : PE X a ta) (hb : PE X b tb) (hm : behindInMarks op b = false) : PT X (.Compare a [op] [b] pos) (Pb (tOp r ta tb)) := by
 intro pins s σ H Q I h
 refine wpAny_isTrue_Compare1 (thn (ha pins s σ H _ I h) fun v s1 ⟨x, H1, I1, r1, q1⟩ => thn (hb pins s1 σ H1 _ I1 q1) fun u s2 ⟨y, H2, I2, r2, q2⟩ =>
  thn (ho pins s2 σ H2 x y v u _ I2 r1 r2 q2) fun c s3 ⟨z, H3, I3, r3, k, e, q3⟩ => ?_) hm
 subst e
 cases r3
 exact wpAny_truthy_bool ⟨H3, I3, q3⟩
def Lz (r r' : R2) (ta tb tc : TE) : TE := fun σ H Q => ta σ H fun x H1 => tb σ H1 fun y H2 => r x y H2 fun z H3 => ∃ k, z = .bl k ∧
 (if k = true then tc σ H3 fun w' H4 => r' y w' H4 Q else Q (.bl false) H3)
theorem wz {op op' : CmpOp} {r r' : R2} (ho : OpR X (compareOp op) r) (ho' : OpR X (compareOp op') r') (ha : PE X a ta) (hb : PE X b tb) (hc : PE X c tc)
 (hm : lastMarks [op, op'] [b, c] = false := by with_unfolding_all rfl) : PE X (.Compare a [op, op'] [b, c] pos) (Lz r r' ta tb tc) := by
 intro pins s σ H Q I h
 refine Compare_chain (thn (ha pins s σ H _ I h) fun v s1 ⟨x, H1, I1, r1, q1⟩ => chain_link (thn (hb pins s1 σ H1 _ I1 q1) fun u s2 ⟨y, H2, I2, r2, q2⟩ =>
  thn (ho pins s2 σ H2 x y v u _ I2 r1 r2 q2) fun d s3 ⟨z, H3, I3, r3, k, e, q3⟩ => ?_)) hm
 subst e
 cases r3
 refine wpAny_truthy_bool ?_
 cases k with
 | false => exact ite_ff ⟨.bl false, H3, I3, rfl, q3⟩
 | true => exact ite_tt (chain_last (thn (hc pins s3 σ H3 _ I3 q3) fun w' s4 ⟨z', H4, I4, r4, q4⟩ => ho' pins s4 σ H4 y z' u w' Q I4 r2 r4 q4))
theorem Wz {op op' : CmpOp} {r r' : R2} (ho : OpR X (compareOp op) r) (ho' : OpR X (compareOp op') r') (ha : PE X a ta) (hb : PE X b tb) (hc : PE X c tc)
 (hm : lastMarks [op, op'] [b, c] = false := by with_unfolding_all rfl) : PT X (.Compare a [op, op'] [b, c] pos) (Pb (Lz r r' ta tb tc)) := by
 intro pins s σ H Q I h
 refine isTrue_chain (thn (ha pins s σ H _ I h) fun v s1 ⟨x, H1, I1, r1, q1⟩ => test_link (thn (hb pins s1 σ H1 _ I1 q1) fun u s2 ⟨y, H2, I2, r2, q2⟩ =>
  thn (ho pins s2 σ H2 x y v u _ I2 r1 r2 q2) fun d s3 ⟨z, H3, I3, r3, k, e, q3⟩ => ?_)) hm
 subst e
 cases r3
 refine wpAny_truthy_bool ?_
 cases k with
 | false =>
  obtain ⟨k', e', q'⟩ := q3
  cases e'
  exact ite_ff ⟨H3, I3, q'⟩
 | true =>
  refine ite_tt (test_last (thn (hc pins s3 σ H3 _ I3 q3) fun w' s4 ⟨z', H4, I4, r4, q4⟩ => thn (ho' pins s4 σ H4 y z' u w' _ I4 r2 r4 q4) fun d' s5 ⟨z2, H5, I5, r5, k2, e2, q5⟩ => ?_))
  subst e2
  cases r5
  exact wpAny_truthy_bool ⟨H5, I5, q5⟩
def ma (K : W.Frag) (x : V) (H : Hp) (k : Bool) : Prop :=
 match x with
 | .non => k = false
 | .bl b => k = b
 | .int i => k = (i != 0)
 | .str y => y.length ≤ sizeLine ∧ k = ((y.length : Int) != 0)
 | .byt y => y.size ≤ sizeLine ∧ k = ((y.size : Int) != 0)
 | .ref p => (∃ xs, SqL K H p xs ∧ k = !xs.isEmpty) ∨ (∃ xs, SqT K H p xs ∧ k = !xs.isEmpty) ∨ ∃ kvs, H p = some (.dK kvs) ∧ k = !kvs.isEmpty
 | _ => False
theorem xa {κ : Type} {kvs : List (κ × V)} {vs : List (κ × Value)} (r : KV kvs vs) : (!vs.isEmpty) = !kvs.isEmpty := by
 cases r <;> rfl
theorem Pc {xs : List V} {its : List Value} (r : Vals xs its) : (!its.toArray.isEmpty) = !xs.isEmpty := by
 cases r <;> simp
theorem Il : (sizeLine : Nat) < 2 ^ 63 := by rw [sizeLine_eq]; decide
theorem Xa : Wn X (fun x H Q => ∃ k, ma X.K x H k ∧ Q k H) := by
 intro pins s σ H x v Q I rx h
 obtain ⟨k, e, q⟩ := h
 have hl := Il
 have hs : sizeLine = 16777216 := sizeLine_eq
 cases x with
 | non =>
  cases rx
  have e' : k = false := e
  subst e'
  exact truthy_none ⟨H, I, q⟩
 | bl b =>
  cases rx
  have e' : k = b := e
  subst e'
  exact wpAny_truthy_bool ⟨H, I, q⟩
 | int i =>
  obtain ⟨t, rfl⟩ := rx
  have e' : k = (i != 0) := e
  subst e'
  exact PySem.P.truthy_int ⟨H, I, q⟩
 | str y =>
  obtain ⟨t, rfl⟩ := rx
  obtain ⟨hy, e'⟩ : y.length ≤ sizeLine ∧ k = ((y.length : Int) != 0) := e
  subst e'
  exact PySem.P.truthy_str (by omega) ⟨H, I.tok _, q⟩
 | byt y =>
  obtain ⟨t, rfl⟩ := rx
  obtain ⟨hy, e'⟩ : y.size ≤ sizeLine ∧ k = ((y.size : Int) != 0) := e
  subst e'
  exact W.truthy_bytes (by omega) ⟨H, I.tok _, q⟩
 | ref p =>
  cases rx
  have e' : (∃ xs, SqL X.K H p xs ∧ k = !xs.isEmpty) ∨ (∃ xs, SqT X.K H p xs ∧ k = !xs.isEmpty) ∨ ∃ kvs, H p = some (.dK kvs) ∧ k = !kvs.isEmpty := e
  rcases e' with ⟨xs, hx, e'⟩ | ⟨xs, hx, e'⟩ | ⟨kvs, hx, e'⟩
  · subst e'
    obtain ⟨its, r, pl, hz⟩ := I.list hx
    have hlen := r.length
    exact wpAny_truthy_list pl.isList (by simp only [List.size_toArray]; omega) ⟨H, I.tok _, by rw [Pc r]; exact q⟩
  · subst e'
    obtain ⟨its, r, pl, hz⟩ := I.tuple hx
    have hlen := r.length
    exact truthy_tuple pl (by simp only [List.size_toArray]; omega) ⟨H, I.tok _, by rw [Pc r]; exact q⟩
  · subst e'
    obtain ⟨hz, hS, vs, r, m⟩ : kvs.length ≤ sizeLine ∧ (p == sysModules) = false ∧ ∃ vs, KV kvs vs ∧ s.heap.DictOf (Cn X.prog X.w) p vs := I.hok p _ hx
    have hlen : kvs.length = vs.length := Paired.length r
    exact wpAny_truthy_dict hS m (by omega) ⟨H, I.tok _, by rw [xa r]; exact q⟩
 | _ => exact (show False from e).elim
theorem xb (ha : PE X a ta) (he : ∀ whole, isTrue a X.env whole = (do let v ← whole; standAt a.pos; holding [v] (truthy v))) :
 PT X a (fun σ H Q => ta σ H fun x H' => ∃ k, ma X.K x H' k ∧ Q k H') := by
 intro pins s σ H Q I h
 exact isTrue_plain (thn (ha pins s σ H _ I h) fun v s1 ⟨x, H1, I1, r1, q1⟩ => Xa pins s1 σ H1 x v Q I1 r1 q1) (he _)
theorem Xb : OpR X (binaryOp .Add) (fun x y H Q => ∃ i j, x = .str i ∧ y = .str j ∧ i.length + j.length ≤ sizeLine ∧ Q (.str (i ++ j)) H) := by
 intro pins s σ H x y v u Q I rx ry h
 obtain ⟨i, j, rfl, rfl, hz, q⟩ := h
 obtain ⟨t, rfl⟩ := rx
 obtain ⟨t', rfl⟩ := ry
 exact add_str (fun t' tk => ⟨.str (i ++ j), H, I.tok _, ⟨_, rfl⟩, q⟩) hz
theorem vals1 (r : Vals [x] us) : ∃ u, us = [u] ∧ RelV x u := by
 cases r with
 | cons r1 r2 => cases r2; exact ⟨_, rfl, r1⟩
theorem vals2 (r : Vals [x, y] us) : ∃ u w', us = [u, w'] ∧ RelV x u ∧ RelV y w' := by
 cases r with
 | cons r1 r2 =>
  cases r2 with
  | cons r3 r4 => cases r4; exact ⟨_, _, rfl, r1, r3⟩
theorem xc : dm X (.builtin "abs") (fun xs H Q => ∃ i, xs = [.int i] ∧ Q (.int (if i < 0 then -i else i)) H) := by
 intro pins s σ H xs us Q I r h
 obtain ⟨i, rfl, q⟩ := h
 obtain ⟨u, rfl, t, rfl⟩ := vals1 r
 exact call_abs_int fun u tk => ⟨.int (if i < 0 then -i else i), H, I.tok _, ⟨_, rfl⟩, q⟩
end
structure ObjM (h : Heap) (x dx C : Addr) (mA : Str → Option Value) : Prop where
 obj : h.get? x = some (W.instObj C dx)
 ns : h.Ns1 dx mA
 ne : dx ≠ x
theorem Xc {h : Heap} {dx : Addr} {mA : Str → Option Value} (n : h.Ns1 dx mA) : ∃ od, h.get? dx = some od ∧ ∀ name, W.lookIn name od = some (mA name) := by
 obtain ⟨o, es, ep, ho, hd, hk, _, hm⟩ := n
 refine ⟨o, ho, fun name => ?_⟩
 have e := hm name
 unfold nsFind findBy at e
 rw [← Array.find?_toList] at e
 unfold W.lookIn
 rw [hd]
 dsimp only
 split
 · rename_i y q
   rw [q] at e
   exact congrArg some e
 · rename_i q
   rw [q] at e
   have a : es.toList.any (·.refKey) = false := by
    rw [List.any_eq_false]
    intro y hy
    obtain ⟨z, t, hkey⟩ := hk y (Array.mem_toList_iff.mp hy)
    simp [DictEntry.refKey, hkey]
   have a' : ¬ es.toList.any (·.refKey) = true := by rw [a]; exact Bool.false_ne_true
   rw [if_neg a']
   exact congrArg some e
theorem ObjM.look (I : ObjM h x dx C mA) : ∃ od, W.InstAt h x (W.instObj C dx) C (some od) ∧ ∀ name, W.lookIn name od = some (mA name) :=
 let ⟨od, ho, hl⟩ := Xc I.ns
 ⟨od, ⟨I.obj, rfl, rfl, ho⟩, hl⟩
section
variable {prog : Program} {w : World} {A : Around} {E : Value → Shared → Prop} {s : Shared} {K : W.Frag} {x dx C f : Addr} {mA : Str → Option Value} {name : Str} {v : Value}
theorem get_map (X : K.In s.heap) (I : ObjM s.heap x dx C mA) (hg : W.plainGet K C name = true) (hh : W.hasDictIn K C = true)
 (ha : W.findIn K (.ref C) name = some none) (hv : mA name = some v) (hv' : W.handedIn v = true) (h : Q v { s with toks := s.toks + 1 }) :
 wpAny (model prog w) A (getAttr (.ref x) name expr) Q E s := by
 obtain ⟨od, J, hl⟩ := I.look
 exact W.get_value X J (W.plainGet_of hg).1 (W.findObj_own hh ha rfl (by rw [hl, hv])) hv' h
theorem Xd (X : K.In s.heap) (I : ObjM s.heap x dx C mA) (hg : W.plainGet K C name = true)
 (hf : W.findIn K (.ref C) name = some (some (.ref f))) (ht : W.isFn K (.ref f) = true) (hv : mA name = none) (h : Q (.ref f, [.ref x]) s) :
 wpAny (model prog w) A (getMethod (.ref x) name pl) Q E s := by
 obtain ⟨od, J, hl⟩ := I.look
 exact W.method_fn X J (W.plainGet_of hg).1 (W.plainGet_of hg).2 hf (beq_iff_eq.mp ht) (by show (W.lookIn name od).map (·.isSome) = some false; rw [hl, hv]; rfl) h
theorem Xe (X : K.In s.heap) (I : ObjM s.heap x dx C mA)
 (hs : W.findIn K (.ref C) "__setattr__" = some (some (.builtin "object.__setattr__"))) (hp : W.plainOver K C = true) (ht : W.takerIn K C name = some none) (hh : W.hasDictIn K C = true)
 (hw : PySem.Within mA ns) (hsz : ns.length ≤ sizeLine)
 (h : ∀ h', ObjM h' x dx C (fun y => if y = name then some v else mA y) → Heap.SameBut dx s.heap h' → Q () { s with heap := h', toks := s.toks + 2 }) :
 wpAny (model prog w) A (setAttr (.ref x) name v) Q E s := by
 obtain ⟨od, J, hl⟩ := I.look
 refine W.set_plain X J hs (W.osa_open (s := { s with toks := s.toks + 1 }) (r := none) X J hp ht fun b => ?_)
 obtain ⟨cd, hc, hd'⟩ := W.any_some hh
 have hx : s.heap.get? x = some ⟨.ref C, some dx, .plain, #[]⟩ := I.obj
 refine wpAny_bind (wpAny_pure (wpAny_bind (wpAny_bind (wpAny_loadPart hx (wpAny_bind (W.Looks.here (s := { s with toks := s.toks + 1 }) (W.looks_clsIn X hc) ?_))))))
 rw [hd']
 refine wpAny_pure (a := some dx) (wpAny_bind (wpAny_pure (wpAny_bind ?_)))
 refine wpAny_nsSet1 (s := { s with toks := s.toks + 1 }) I.ns fun h' hn2 hs2 => ?_
 obtain ⟨oD, esD, epD, hoD, hdD, hcD⟩ := hn2.count (PySem.Within.cons name v hw)
 refine wpAny_bind (wpAny_lookBehind hoD (by rw [hdD]; exact pastItsLine_dict (Nat.le_trans hcD (by rw [List.length_cons]; omega))) ?_)
 exact wpAny_pure (h _ ⟨(hs2.2 _ (Ne.symm I.ne)).trans I.obj, hn2, I.ne⟩ hs2)
theorem xf (X : K.In s.heap) (hm : W.makesIn K C = true)
 (hi : W.findIn K (.ref C) "__init__" = some (some (.ref f))) (hf : W.typeIn K (.ref f) = some (.type "function"))
 (h : codeAny (model prog w) (A.under (.builtin "type.__call__" ⟨.ref C :: vs, kw⟩)) (.call (.ref f) ⟨.ref (s.heap.objs.size + 1) :: vs, kw⟩) (W.InitBack (s.heap.objs.size + 1) R)
  { s with heap := (s.heap.push W.emptyDict).push (W.instObj C s.heap.objs.size) }) :
 codeAny (model prog w) A (.call (.ref C) ⟨vs, kw⟩) R s := by
 obtain ⟨hh, g, d, t, os⟩ := s
 exact W.make_core (W.makes_of X hm) (W.looks_findIn X hi) (fun self => W.bind_fn X self hf) (.inl rfl) h
end
def Bv (f : Str) (v : V) : List (Str × V) → List (Str × V)
 | [] => [(f, v)]
 | (g, x) :: r => if g = f then (g, v) :: r else (g, x) :: Bv f v r
theorem Ma (f g : Str) (v : V) : ∀ fs : List (Str × V), (Bv f v fs).lookup g = if g = f then some v else fs.lookup g
 | [] => by
  show List.lookup g [(f, v)] = _
  by_cases h : g = f
  · have hb : (g == f) = true := beq_iff_eq.mpr h
    simp only [List.lookup, hb, if_pos h]
  · have hb : (g == f) = false := beq_eq_false_iff_ne.mpr h
    simp only [List.lookup, hb, if_neg h]
 | (k, x) :: r => by
  have ih := Ma f g v r
  rw [show Bv f v ((k, x) :: r) = (if k = f then (k, v) :: r else (k, x) :: Bv f v r) from rfl]
  by_cases hk : k = f
  · rw [if_pos hk]
    by_cases h : g = k
    · have hb : (g == k) = true := beq_iff_eq.mpr h
      simp only [List.lookup, hb, if_pos (h.trans hk)]
    · have hb : (g == k) = false := beq_eq_false_iff_ne.mpr h
      simp only [List.lookup, hb, if_neg (fun e : g = f => h (e.trans hk.symm))]
  · rw [if_neg hk]
    by_cases h : g = k
    · have hb : (g == k) = true := beq_iff_eq.mpr h
      simp only [List.lookup, hb, if_neg (fun e : g = f => hk (h.symm.trans e))]
    · have hb : (g == k) = false := beq_eq_false_iff_ne.mpr h
      simp only [List.lookup, hb]
      exact ih
theorem Mb (f : Str) (v : V) : ∀ fs : List (Str × V), f ∈ (Bv f v fs).map (·.1) ∧ ∀ g, g ∈ fs.map (·.1) → g ∈ (Bv f v fs).map (·.1)
 | [] => ⟨by simp [Bv], fun g h => by simp at h⟩
 | (k, x) :: r => by
  obtain ⟨i1, i2⟩ := Mb f v r
  rw [show Bv f v ((k, x) :: r) = (if k = f then (k, v) :: r else (k, x) :: Bv f v r) from rfl]
  by_cases hk : k = f
  · rw [if_pos hk]
    subst hk
    exact ⟨by simp, fun g h => by simpa using h⟩
  · rw [if_neg hk]
    refine ⟨?_, fun g h => ?_⟩
    · rw [List.map_cons]
      exact List.mem_cons_of_mem _ i1
    · rw [List.map_cons] at h ⊢
      rcases List.mem_cons.mp h with e | e
      · exact List.mem_cons.mpr (.inl e)
      · exact List.mem_cons_of_mem _ (i2 g e)
theorem pd (f : Str) (v : V) : ∀ fs : List (Str × V), (Bv f v fs).length ≤ fs.length + 1
 | [] => by simp [Bv]
 | (k, x) :: r => by
  have ih := pd f v r
  rw [show Bv f v ((k, x) :: r) = (if k = f then (k, v) :: r else (k, x) :: Bv f v r) from rfl]
  by_cases hk : k = f
  · rw [if_pos hk, List.length_cons, List.length_cons]; omega
  · rw [if_neg hk, List.length_cons, List.length_cons]; omega
theorem Dh.some_of (r : Dh (some v) o) : ∃ u, o = some u ∧ RelV v u := by
 cases o with
 | none => exact (show False from r).elim
 | some u => exact ⟨u, rfl, r⟩
theorem Dh.none_of (r : Dh none o) : o = none := by
 cases o with
 | none => rfl
 | some u => exact (show False from r).elim
theorem Xf (r : RelV v u) : W.handedIn u = true := by
 cases v with
 | non => cases (show u = Value.none from r); rfl
 | bl b => cases (show u = Value.bool b from r); rfl
 | int i => obtain ⟨t, e⟩ := (show ∃ t, u = Value.int i t from r); cases e; rfl
 | str x => obtain ⟨t, e⟩ := (show ∃ t, u = Value.str x t from r); cases e; rfl
 | byt b => obtain ⟨t, e⟩ := (show ∃ t, u = Value.bytes b t from r); cases e; rfl
 | flt b => obtain ⟨t, e⟩ := (show ∃ t, u = Value.float b t from r); cases e; rfl
 | ref a => cases (show u = Value.ref a from r); rfl
 | ty n => cases (show u = Value.type n from r); rfl
section
variable {P : Program} {w : World} {H H' : Hp} {h h' : Heap} {a C dx : Addr} {fs fs' : List (Str × V)}
theorem Mc (hok : HOk P w H h) (e : H a = some (.ins C dx fs)) : ∃ mA, ObjM h a dx C mA ∧ (∀ f, Dh (fs.lookup f) (mA f)) ∧ PySem.Within mA (fs.map (·.1)) ∧ fs.length ≤ 1000 ∧ H dx = some (.own a) := by
 obtain ⟨d, z, ne, ob, mA, n, r, q⟩ := (show bj P w H h a (.ins C dx fs) from hok a _ e)
 exact ⟨mA, ⟨ob, n, ne⟩, r, q, z, d⟩
end
structure Cls (K : W.Frag) (C : Addr) : Prop where
 pg : W.plainGet K C Str.empty = true
 hd : W.hasDictIn K C = true
 po : W.plainOver K C = true
 sa : W.findIn K (.ref C) "__setattr__" = some (some (.builtin "object.__setattr__"))
theorem Cls.get {K : W.Frag} {C : Addr} (c : Cls K C) (f : Str) : W.plainGet K C f = true := c.pg
def Cb (K : W.Frag) (C : Addr) (f : Str) : Prop := W.findIn K (.ref C) f = some none
theorem Cb.taker {K : W.Frag} {C : Addr} {f : Str} (n : Cb K C f) : W.takerIn K C f = some none := by
 unfold W.takerIn
 rw [show W.findIn K (.ref C) f = some none from n]
 rfl
structure Meth (K : W.Frag) (C : Addr) (m : Str) (f : Addr) : Prop where
 at_ : W.findIn K (.ref C) m = some (some (.ref f))
 fn : W.isFn K (.ref f) = true
 kp : W.keepIn K (.ref f) = true
section
variable {X : Cx} {pins : List (Addr × Obj)} {σ : St} {H : Hp} {s : Shared} {a C dx : Addr} {fs : List (Str × V)} {f : Str} {v : V} {A : Around} {E : Value → Shared → Prop}
theorem xg (I : Inv X pins σ H s) (e : H a = some (.ins C dx fs)) (c : Cls X.K C) (n : Cb X.K C f) (l : fs.lookup f = some v)
 (h : ∀ u s', Inv X pins σ H s' → RelV v u → Q u s') : wpAny (model X.prog X.w) A (getAttr (.ref a) f b) Q E s := by
 obtain ⟨mA, O, r, _, _, _⟩ := Mc I.hok e
 obtain ⟨u, hu, ru⟩ := Dh.some_of (v := v) (o := mA f) (by rw [← l]; exact r f)
 exact get_map I.kIn O (c.get f) c.hd n hu (Xf ru) (h u _ (I.tok _) ru)
theorem Pd (I : Inv X pins σ H s) (e : H a = some (.ins C dx fs)) (c : Cls X.K C) (k : Meth X.K C m g) (l : fs.lookup m = none)
 (h : Q (.ref g, [.ref a]) s) : wpAny (model X.prog X.w) A (getMethod (.ref a) m pl) Q E s := by
 obtain ⟨mA, O, r, _, _, _⟩ := Mc I.hok e
 have hn : mA m = none := Dh.none_of (by rw [← l]; exact r m)
 exact Xd I.kIn O (c.get m) k.at_ k.fn hn h
theorem Xg (I : Inv X pins σ H s) (e : H a = some (.ins C dx fs)) (c : Cls X.K C) (n : Cb X.K C f) (hl : fs.length < 1000) (ry : RelV y u)
 (h : ∀ s', Inv X pins σ (upd H a (.ins C dx (Bv f y fs))) s' → Q () s') : wpAny (model X.prog X.w) A (setAttr (.ref a) f u) Q E s := by
 obtain ⟨mA, O, r, wi, _, ho⟩ := Mc I.hok e
 have hz : (fs.map (·.1)).length ≤ sizeLine := by rw [List.length_map, sizeLine_eq]; omega
 refine Xe I.kIn O c.sa c.po n.taker c.hd wi hz fun h' O' sb => h _ ?_
 have hd : ∃ o, h'.get? dx = some o := let ⟨o, _, _, e', _⟩ := O'.ns; ⟨o, e'⟩
 refine I.write (x := a) (e := dx) (by rw [e]; exact True.intro) (.inr ho) (fun b q hb z => (sb.2 b hb).trans z) hd ?_
 refine ⟨by rw [Bf O.ne]; exact ho, ?_, O.ne, O'.obj, _, O'.ns, fun g => ?_, fun g hg => ?_⟩
 · have := pd f y fs; omega
 · show Dh ((Bv f y fs).lookup g) (if g = f then some u else mA g)
   rw [Ma]
   by_cases q : g = f
   · rw [if_pos q, if_pos q]; exact ry
   · rw [if_neg q, if_neg q]; exact r g
 · by_cases q : g = f
   · rw [q]; exact (Mb f y fs).1
   · refine (Mb f y fs).2 g (wi g fun z => hg ?_)
     show (if g = f then some u else mA g) = none
     rw [if_neg q]; exact z
theorem Inv.made (I : Inv X pins σ H s) : Inv X pins σ (upd (upd H s.heap.objs.size (.own (s.heap.objs.size + 1))) (s.heap.objs.size + 1) (.ins C s.heap.objs.size []))
 { s with heap := (s.heap.push W.emptyDict).push (W.instObj C s.heap.objs.size) } := by
 have e1 : (s.heap.push W.emptyDict).get? s.heap.objs.size = some W.emptyDict := Heap.get?_push_size s.heap rfl
 have e2 : ((s.heap.push W.emptyDict).push (W.instObj C s.heap.objs.size)).get? (s.heap.objs.size + 1) = some (W.instObj C s.heap.objs.size) := by
  have := Heap.get?_push_size (s.heap.push W.emptyDict) (o := W.instObj C s.heap.objs.size) rfl
  rwa [Heap.size_push] at this
 have e3 : (s.heap.push W.emptyDict).Ns s.heap.objs.size (fun _ => none) := ⟨W.emptyDict, #[], _, e1, rfl, (fun e he => absurd he (by simp)), fun _ => rfl⟩
 have I1 := I.laid (a := s.heap.objs.size) (o := .own (s.heap.objs.size + 1)) (h' := s.heap.push W.emptyDict) (t' := s.toks) (fun b u q => Heap.get?_push_of_some _ q) (Nat.le_refl _) ⟨_, e1⟩
 refine I1.laid (a := s.heap.objs.size + 1) (o := .ins C s.heap.objs.size []) (t' := s.toks) (fun b u q => Heap.get?_push_of_some _ q) (Nat.le_of_eq (Heap.size_push _ _)) ?_
 have ne : s.heap.objs.size ≠ s.heap.objs.size + 1 := Nat.ne_of_lt (Nat.lt_succ_self _)
 refine ⟨by rw [Bf ne, Cf], Nat.zero_le _, ne, e2, fun _ => none, (Heap.Ns1.of_empty e3).at fun o q => Heap.get?_push_of_some _ q, fun _ => True.intro, fun y hy => absurd rfl hy⟩
theorem xh (hb : attributeBase e f env (eval e env) = eval e env)
 (h : wpAny (model prog w) A (eval e env) (fun o s₁ => wpAny (model prog w) A (getAttr o f true) Q E s₁) E s) : wpAny (model prog w) A (eval (.Attribute e f pos) env) Q E s :=
 Attribute_any_ h (by rw [arm_eval_Attribute, hb])
end
def Xh (K : W.Frag) (ta : TE) (f : Str) : TE := fun σ H Q => ta σ H fun x H1 => ∃ a C dx fs v, x = .ref a ∧ H1 a = some (.ins C dx fs) ∧ Cls K C ∧ Cb K C f ∧ fs.lookup f = some v ∧ Q v H1
def xi (K : W.Frag) (ta tv : TE) (f : Str) : TS := fun D σ H => tv σ H fun y H1 => ta σ H1 fun x H2 => ∃ a C dx fs, x = .ref a ∧ H2 a = some (.ins C dx fs) ∧ Cls K C ∧ Cb K C f ∧ fs.length < 1000 ∧
 D.nx σ (upd H2 a (.ins C dx (Bv f y fs)))
section
variable {X : Cx} {o e value : Expr} {f : Str} {pos pos' tpos : Pos} {ta tv : TE}
theorem Xi (he : PE X e ta) (hb : attributeBase e f X.env (eval e X.env) = eval e X.env) : PE X (.Attribute e f pos) (Xh X.K ta f) := by
 intro pins s σ H Q I h
 refine xh hb (thn (he pins s σ H _ I h) fun u s1 ⟨x, H1, I1, rx, a, C, dx, fs, v, ex, ea, c, n, l, q⟩ => ?_)
 subst ex
 obtain rfl : u = Value.ref a := rx
 exact xg I1 ea c n l fun u' s2 I2 ru => ⟨v, H1, I2, ru, q⟩
theorem xj (ha : PE X o ta) (hv : PE X value tv) (hs : swapsWith value (some (.Attribute o f pos')) pos.line X.env = pure false) : PS X (.Assign [.Attribute o f pos'] value pos) (xi X.K ta tv f) := by
 intro pins s σ H D I h
 refine plainObj_wpAny_Assign_Attribute (thn (hv pins s σ H _ I h) fun u s1 ⟨y, H1, I1, ry, q⟩ => thn (ha pins s1 σ H1 _ I1 q) fun ov s2 ⟨x, H2, I2, rx, a, C, dx, fs, ex, ea, c, n, l, q2⟩ => ?_) hs
 subst ex
 obtain rfl : ov = Value.ref a := rx
 exact Xg I2 ea c n l ry fun s3 I3 => ⟨σ, _, I3, q2⟩
end
section
variable {X : Cx} {pins : List (Addr × Obj)} {σ : St} {H : Hp} {s : Shared} {A : Around} {E : Value → Shared → Prop} {Q : Value → Shared → Prop} {c : Value} {b : Bool}
end
structure Room (k : Nat) (A : Around) : Prop where
 hd : A.handled = none
 dp : A.depth + 3 * k + 5 < recursionLimit
 un : A.units + 16 * k + 200 < cLine
theorem Room.mono (r : Room k A) (h : j ≤ k) : Room j A := ⟨r.hd, by have := r.dp; omega, by have := r.un; omega⟩
theorem Room.deeper (r : Room (k + 1) A) (env : Env) : Room k (A.deeper env) :=
 ⟨r.hd, by have := r.dp; show A.depth + 1 + 3 * k + 5 < _; omega, by have := r.un; show A.units + 3 + 16 * k + 200 < _; omega⟩
theorem Xj {A : Around} {C : Addr} {us : List Value} {kw : List (Str × Value)} : (A.under (.builtin "type.__call__" ⟨.ref C :: us, kw⟩)).depth = A.depth + 1 := by
 first | rfl | simp [Around.under, Code.weight, Code.isCreation, Code.isGuard, Code.isCaller, Code.frames, Code.isFrame, guardIds]
theorem Xk {A : Around} {C : Addr} {us : List Value} {kw : List (Str × Value)} : (A.under (.builtin "type.__call__" ⟨.ref C :: us, kw⟩)).units = A.units + 1 := by
 first | rfl | simp [Around.under, Code.cUnits, Code.frames, Code.isFrame]
theorem Room.make (r : Room (k + 1) A) (C : Addr) (us : List Value) (kw : List (Str × Value)) : Room k (A.under (.builtin "type.__call__" ⟨.ref C :: us, kw⟩)) :=
 ⟨r.hd, by have := r.dp; rw [Xj]; omega, by have := r.un; rw [Xk]; omega⟩
theorem Room.depth (r : Room k A) : A.depth < recursionLimit := by have := r.dp; omega
theorem Room.units (r : Room k A) : A.units + 64 < cLine := by have := r.un; omega
def Jh : TA := fun _ H Q => Q [] H
def kc (ta : TE) (tr : TA) : TA := fun σ H Q => ta σ H fun x H1 => tr σ H1 fun xs H2 => Q (x :: xs) H2
section
variable {X : Cx} {e : Expr} {es : List Expr} {te : TE} {t : TA} {pos : Pos}
theorem ji : PA X [] Jh := fun _ _ _ _ H Q I h => Calls.spliced_nil ⟨[], H, I, .nil, h⟩
theorem Ge (ha : PE X e te) (hr : PA X es t) (hs : starEach (e :: es) X.env = (false, eval e X.env) :: starEach es X.env := by rfl) : PA X (e :: es) (kc te t) := by
 intro pos pins s σ H Q I h
 rw [hs]
 show wpAny _ _ (spliced ((false, eval e X.env) :: backTo pos (starEach es X.env))) _ _ s
 refine Calls.spliced_cons (thn (ha pins s σ H _ I h) fun u s1 ⟨x, H1, I1, r1, q1⟩ => ?_)
 exact thn (hr pos pins s1 σ H1 _ I1 q1) fun us s2 ⟨xs, H2, I2, r2, q2⟩ => ⟨x :: xs, H2, I2, .cons r1 r2, q2⟩
def xl (t : TA) : TE := fun σ H Q => t σ H fun xs H1 => xs.length ≤ sizeLine ∧ ∀ p, H1 p = none → Q (.ref p) (upd H1 p (.tup xs))
def Xl (t : TA) : TE := fun σ H Q => t σ H fun xs H1 => xs.length ≤ sizeLine ∧ ∀ p, H1 p = none → Q (.ref p) (upd H1 p (.lst xs))
theorem Xm {x1} (h : PA X es t) : PE X (.Tuple es x1 pos) (xl t) := by
 intro pins s σ H Q I hq
 refine wpAny_Tuple_spliced (thn (h pos pins s σ H _ I hq) fun us s1 ⟨xs, H1, I1, r, z, q⟩ => ⟨by rw [← r.length]; exact z, ?_⟩)
 have hf : H1 s1.heap.objs.size = none := I1.hok.fresh (Nat.le_refl _)
 refine ⟨.ref s1.heap.objs.size, upd H1 s1.heap.objs.size (.tup xs), I1.laid (t' := s1.toks) (fun b u e => Heap.get?_push_of_some _ e) (Nat.le_refl _) ?_, rfl, q _ hf⟩
 exact ⟨z, us, r, ⟨_, Heap.get?_push_size _ rfl, rfl, _, rfl⟩⟩
theorem xn (h : PA X es t) : PE X (.List es pos) (Xl t) := by
 intro pins s σ H Q I hq
 refine wpAny_List_spliced (thn (h pos pins s σ H _ I hq) fun us s1 ⟨xs, H1, I1, r, z, q⟩ => ⟨by rw [← r.length]; exact z, ?_⟩)
 have hf : H1 s1.heap.objs.size = none := I1.hok.fresh (Nat.le_refl _)
 refine ⟨.ref s1.heap.objs.size, upd H1 s1.heap.objs.size (.lst xs), I1.laid (t' := s1.toks) (fun b u e => Heap.get?_push_of_some _ e) (Nat.le_refl _) ?_, rfl, q _ hf⟩
 exact ⟨z, us, 0, r, Heap.get?_push_size _ rfl⟩
end
abbrev Sp := List V → Hp → VK → XK → Prop
abbrev CXT := List Env → Hp → Shared → XK → Value → Shared → Prop
structure Env0 (P : Program) (w : World) (K : W.Frag) (mg : Str → Option Value) (base : Heap) (A : Around) (outer : List Env) (s : Shared) (H : Hp) : Prop where
 frames : A.frames = some outer
 mod : Mod K mg base
 bs : ∀ b o, base.get? b = some o → s.heap.get? b = some o ∧ H b = none
 bsz : base.objs.size ≤ s.heap.objs.size
 funs : s.heap.FunFrames base outer
 frf : ∀ b ∈ frs outer, H b = none
 hok : HOk P w H s.heap
 bare : AllBare s.gens
def CE (outer : List Env) (P : Program) (w : World) (H : Hp) (s : Shared) (Q : VK) (u : Value) (s' : Shared) : Prop :=
 ∃ v H', s'.os = s.os ∧ AllBare s'.gens ∧ Un (frs outer) [] H H' s.heap s'.heap ∧ HOk P w H' s'.heap ∧ RelV v u ∧ Q v H'
def CR (CX : CXT) (outer : List Env) (P : Program) (w : World) (H : Hp) (s : Shared) (Q : VK) (E : XK) (r : Result) (s' : Shared) : Prop :=
 match r with
 | .ok (.ret u) => CE outer P w H s Q u s'
 | .ok _ => False
 | .error e => CX outer H s E e s'
structure FnOk (P : Program) (w : World) (K : W.Frag) (mg : Str → Option Value) (base : Heap) (CX : CXT) (k : Nat) (f : Addr) (fd : FuncData) (ps : List Str) (sp : Sp) : Prop where
 len : ∀ vs H Q E, sp vs H Q E → vs.length = ps.length
 run : ∀ (A : Around) (outer : List Env) (s : Shared) (H : Hp) (args : Args) (us : List Value) (vs : List V) (Q : VK) (E : XK), Room k A → Env0 P w K mg base A outer s H → BindsTo s fd args (ps.zip us) → Vals vs us → sp vs H Q E →
  codeAny (model P w) A (.call (.ref f) args) (CR CX outer P w H s Q E) s
theorem Env0.make {P : Program} {w : World} {K : W.Frag} {mg : Str → Option Value} {base : Heap} {A : Around} {outer : List Env} {s : Shared} {H : Hp} (e : Env0 P w K mg base A outer s H) (C : Addr) (us : List Value) (kw : List (Str × Value)) :
 Env0 P w K mg base (A.under (.builtin "type.__call__" ⟨.ref C :: us, kw⟩)) outer s H := ⟨by first | exact e.frames | (simpa [Around.under, Code.envs, Code.isFrame, pushEnvs] using e.frames), e.mod, e.bs, e.bsz, e.funs, e.frf, e.hok, e.bare⟩
section
variable {X : Cx} {pins : List (Addr × Obj)} {σ : St} {H : Hp} {s s' : Shared}
theorem Inv.env0 (I : Inv X pins σ H s) : Env0 X.prog X.w X.K X.mg X.base X.A X.stack s H :=
 ⟨I.ok.frames, I.ok.mod, I.bs, Nat.le_trans I.ok.bsz I.sz, I.stack, I.stkFree, I.hok, I.bare⟩
theorem Inv.after (I : Inv X pins σ H s) (h : CE X.stack X.prog X.w H s Q u s') : EP X pins σ Q u s' := by
 obtain ⟨v, H', os, bare, un, hok, r, q⟩ := h
 obtain ⟨hh, g, d, t, os'⟩ := s'
 obtain rfl : os' = s.os := os
 exact ⟨v, H', I.call (h' := hh) (g' := g) (d' := d) (t' := t) (ch := []) un hok bare (fun b z => absurd z (by simp)), r, q⟩
end
def pe (sp : Sp) (dvs : List V) (E : XK) (t : TA) : TE := fun σ H Q => t σ H fun vs H1 => sp (vs ++ dvs) H1 Q E
def Pe (C : Addr) (m : Str) (sp : Sp) (dvs : List V) (E : XK) (ta : TE) (t : TA) : TE := fun σ H Q => ta σ H fun x H1 => ∃ a dx fs, x = .ref a ∧ H1 a = some (.ins C dx fs) ∧ fs.lookup m = none ∧
 t σ H1 fun vs H2 => sp (x :: (vs ++ dvs)) H2 Q E
def Xn (C : Addr) (sp : Sp) (dvs : List V) (E : XK) (t : TA) : TE := fun σ H Q => t σ H fun vs H1 => ∀ x dx, H1 x = none → H1 dx = none → dx ≠ x →
 sp (.ref x :: (vs ++ dvs)) (upd (upd H1 dx (.own x)) x (.ins C dx [])) (fun v H2 => v = .non ∧ Q (.ref x) H2) E
def Binds (K : W.Frag) (fd : FuncData) (ps : List Str) (ds : List Value) : Prop :=
 ∀ (s : Shared) (us : List Value), K.In s.heap → (us ++ ds).length = ps.length → BindsTo s fd ⟨us, []⟩ (ps.zip (us ++ ds))
theorem Binds.all {K : W.Frag} {fd : FuncData} {ps : List Str} (h : ∀ us : List Value, us.length = ps.length → bindArgs fd ⟨us, []⟩ = pure (ps.zip us)) : Binds K fd ps [] := fun s us _ hl => by
 rw [List.append_nil] at hl ⊢
 exact .of_eq (h us hl)
def Passes (CX : CXT) (X : Cx) (E : XK) : Prop := ∀ (pins : List (Addr × Obj)) (σ : St) (H : Hp) (s : Shared) (e : Value) (s' : Shared), Inv X pins σ H s → CX X.stack H s E e s' → X.xe e s'
section
variable {X : Cx} {CX : CXT} {k : Nat} {f C : Addr} {fd : FuncData} {ps : List Str} {sp : Sp} {dvs : List V} {ds : List Value} {E : XK} {x m : Str} {p pos apos : Pos} {e o : Expr} {es : List Expr} {ta : TE} {t : TA}
theorem Ji {σ : St} (F : FnOk X.prog X.w X.K X.mg X.base CX k f fd ps sp) (hr : Room k X.A) (hb : Binds X.K fd ps ds) (hd : Vals dvs ds) (hx : Passes CX X E)
 (I : Inv X pins σ H s) (r : Vals vs us) (h : sp (vs ++ dvs) H Q E) : wpAny (model X.prog X.w) X.A (call (.ref f) us) (EP X pins σ Q) X.xe s := by
 have r2 : Vals (vs ++ dvs) (us ++ ds) := r.append hd
 have hl : (us ++ ds).length = ps.length := by rw [← r2.length]; exact F.len _ _ _ _ h
 refine wpAny_call (codeAny_mono (F.run X.A X.stack s H ⟨us, []⟩ (us ++ ds) (vs ++ dvs) Q E hr I.env0 (hb s us I.kIn hl) r2 h) fun r s' hq => ?_)
 cases r with
 | error e => exact hx pins σ H s e s' I hq
 | ok fl =>
  cases fl with
  | ret u => exact I.after hq
  | next => exact False.elim hq
  | brk => exact False.elim hq
  | cont => exact False.elim hq
theorem xo (F : FnOk X.prog X.w X.K X.mg X.base CX k f fd ps sp) (hr : Room k X.A) (hg : Gl X x) (hm : X.mg x = some (.ref f)) (hk : W.keepIn X.K (.ref f) = true) (hb : Binds X.K fd ps ds) (hd : Vals dvs ds) (hx : Passes CX X E)
 (ha : PA X (e :: es) t) (hdb : (x == ("__debug__" : Str)) = false := by decide) (he : starEach (e :: es) X.env = (false, eval e X.env) :: starEach es X.env := by rfl) (hpl : (backTo pos (starEach es X.env)).any (·.1) = false := by rfl) :
 PE X (.Call (.Name x p) (e :: es) [] pos) (pe sp dvs E t) := by
 intro pins s σ H Q I h
 refine wpAny_Call_Name_kw (gc I hg hm ?_ hdb)
 refine W.callWith_K (h₀ := X.base) I.ok.mod.kin hk (thn (ha pos pins s σ H _ I h) fun us s1 ⟨vs, H1, I1, r, q⟩ => ⟨I1.kIn, ?_⟩) he hpl
 exact Ji F hr hb hd hx I1 r q
theorem Xo (F : FnOk X.prog X.w X.K X.mg X.base CX k f fd ps sp) (hr : Room k X.A) (hg : Gl X x) (hm : X.mg x = some (.ref f)) (hk : W.keepIn X.K (.ref f) = true) (hb : Binds X.K fd ps ds) (hd : Vals dvs ds) (hx : Passes CX X E)
 (hdb : (x == ("__debug__" : Str)) = false := by decide) : PE X (.Call (.Name x p) [] [] pos) (pe sp dvs E Jh) := by
 intro pins s σ H Q I h
 refine wpAny_Call_Name_kw (gc I hg hm ?_ hdb)
 exact W.callWith_K0 I.kIn hk (Ji (us := []) F hr hb hd hx I .nil h)
theorem Xp {pl : Sem Bool} (he : PE X o ta) (c : Cls X.K C) (hm : Meth X.K C m f) (F : FnOk X.prog X.w X.K X.mg X.base CX k f fd ps sp) (hr : Room k X.A) (hb : Binds X.K fd ps ds) (hd : Vals dvs ds) (hx : Passes CX X E) (ha : PA X (e :: es) t)
 (hst : starEach (e :: es) X.env = (false, eval e X.env) :: starEach es X.env := by rfl) (hpl : (backTo pos (starEach es X.env)).any (·.1) = false := by rfl)
 (ht : eval (.Call (.Attribute o m apos) (e :: es) [] pos) X.env = (do
  let ov ← eval o X.env
  standAt apos.atName
  let (f, first) ← holding [ov] (getMethod ov m pl)
  callWith pos f first (backTo pos (starEach (e :: es) X.env)) (backToKw pos (keywordEach [] X.env))) := by rfl) :
 PE X (.Call (.Attribute o m apos) (e :: es) [] pos) (Pe C m sp dvs E ta t) := by
 intro pins s σ H Q I h
 refine W.methodCall_KW (pl := pl) (thn (he pins s σ H _ I h) fun u s1 ⟨x, H1, I1, rx, a, dx, fs, ex, ea, l, q⟩ => ?_) ht
 subst ex
 obtain rfl : u = Value.ref a := rx
 refine Pd I1 ea c hm l ?_
 refine W.callWith_K (first := [.ref a]) (h₀ := X.base) I.ok.mod.kin hm.kp (thn (ha pos pins s1 σ H1 _ I1 q) fun us s2 ⟨vs, H2, I2, r, q2⟩ => ⟨I2.kIn, ?_⟩) hst hpl
 exact Ji (us := .ref a :: us) (vs := .ref a :: vs) F hr hb hd hx I2 (.cons rfl r) q2
theorem xq {pl : Sem Bool} (he : PE X o ta) (c : Cls X.K C) (hm : Meth X.K C m f) (F : FnOk X.prog X.w X.K X.mg X.base CX k f fd ps sp) (hr : Room k X.A) (hb : Binds X.K fd ps ds) (hd : Vals dvs ds) (hx : Passes CX X E)
 (ht : eval (.Call (.Attribute o m apos) [] [] pos) X.env = (do
  let ov ← eval o X.env
  standAt apos.atName
  let (f, first) ← holding [ov] (getMethod ov m pl)
  callWith pos f first (backTo pos (starEach [] X.env)) (backToKw pos (keywordEach [] X.env))) := by rfl) :
 PE X (.Call (.Attribute o m apos) [] [] pos) (Pe C m sp dvs E ta Jh) := by
 intro pins s σ H Q I h
 refine W.methodCall_KW (pl := pl) (thn (he pins s σ H _ I h) fun u s1 ⟨x, H1, I1, rx, a, dx, fs, ex, ea, l, q⟩ => ?_) ht
 subst ex
 obtain rfl : u = Value.ref a := rx
 refine Pd I1 ea c hm l ?_
 exact W.callWith_K0 (first := [.ref a]) I1.kIn hm.kp (Ji (us := [.ref a]) (vs := [.ref a]) F hr hb hd hx I1 (.cons rfl .nil) q)
structure Mk (K : W.Frag) (C f : Addr) : Prop where
 makes : W.makesIn K C = true
 init : W.findIn K (.ref C) "__init__" = some (some (.ref f))
 fn : W.isFn K (.ref f) = true
 kp : W.keepIn K (.ref C) = true
theorem Xq {σ : St} (M : Mk X.K C f) (F : FnOk X.prog X.w X.K X.mg X.base CX k f fd ps sp) (hr : Room (k + 1) X.A) (hb : Binds X.K fd ps ds) (hd : Vals dvs ds)
 (hx : Passes CX X E) (I : Inv X pins σ H s) (r : Vals vs us)
 (h : ∀ x dx, H x = none → H dx = none → dx ≠ x → sp (.ref x :: (vs ++ dvs)) (upd (upd H dx (.own x)) x (.ins C dx [])) (fun v H2 => v = .non ∧ Q (.ref x) H2) E) :
 wpAny (model X.prog X.w) X.A (call (.ref C) us) (EP X pins σ Q) X.xe s := by
 have hq := h (s.heap.objs.size + 1) s.heap.objs.size (I.hok.fresh (Nat.le_succ _)) (I.hok.fresh (Nat.le_refl _)) (Nat.ne_of_lt (Nat.lt_succ_self _))
 have I2 := Inv.made (C := C) I
 have r2 : Vals (V.ref (s.heap.objs.size + 1) :: (vs ++ dvs)) (Value.ref (s.heap.objs.size + 1) :: (us ++ ds)) := .cons rfl (r.append hd)
 have hl : (Value.ref (s.heap.objs.size + 1) :: us ++ ds).length = ps.length := by
  have e := r2.length
  rw [F.len _ _ _ _ hq] at e
  exact e.symm
 refine wpAny_call (xf (f := f) I.kIn M.makes M.init (beq_iff_eq.mp M.fn) (codeAny_mono (F.run _ X.stack _ _ ⟨Value.ref (s.heap.objs.size + 1) :: us, []⟩ (Value.ref (s.heap.objs.size + 1) :: (us ++ ds)) _ _ E (hr.make C us [])
  (I2.env0.make C us []) (hb _ (Value.ref (s.heap.objs.size + 1) :: us) I2.kIn hl) r2 hq) fun r s' hq' => ?_))
 cases r with
 | error e => exact hx pins σ _ _ e s' I2 hq'
 | ok fl =>
  cases fl with
  | ret u =>
   obtain ⟨v, H', I3, rv, ev, q3⟩ := I2.after hq'
   subst ev
   exact ⟨rv, ⟨V.ref (s.heap.objs.size + 1), H', I3, rfl, q3⟩⟩
  | next => exact False.elim hq'
  | brk => exact False.elim hq'
  | cont => exact False.elim hq'
theorem xr (M : Mk X.K C f) (F : FnOk X.prog X.w X.K X.mg X.base CX k f fd ps sp) (hr : Room (k + 1) X.A) (hg : Gl X x) (hm : X.mg x = some (.ref C)) (hb : Binds X.K fd ps ds) (hd : Vals dvs ds) (hx : Passes CX X E)
 (ha : PA X (e :: es) t) (hdb : (x == ("__debug__" : Str)) = false := by decide) (he : starEach (e :: es) X.env = (false, eval e X.env) :: starEach es X.env := by rfl) (hpl : (backTo pos (starEach es X.env)).any (·.1) = false := by rfl) :
 PE X (.Call (.Name x p) (e :: es) [] pos) (Xn C sp dvs E t) := by
 intro pins s σ H Q I h
 refine wpAny_Call_Name_kw (gc I hg hm ?_ hdb)
 refine W.callWith_K (h₀ := X.base) I.ok.mod.kin M.kp (thn (ha pos pins s σ H _ I h) fun us s1 ⟨vs, H1, I1, r, q⟩ => ⟨I1.kIn, ?_⟩) he hpl
 exact Xq M F hr hb hd hx I1 r q
end
section
variable {X : Cx} {CX : CXT} {k : Nat} {f C : Addr} {fd : FuncData} {ps ks : List Str} {sp : Sp} {E : XK} {x m : Str} {p pos apos kpos : Pos} {e o : Expr} {es : List Expr} {kws : List Keyword} {te ta : TE} {t tk : TA} {nm : Option Str}
variable {g : List Value → List Value → List Value} {gV : List V → List V → List V}
end
structure FnScope (N P : List Str) (sc : Scope) : Prop where
 kind : sc.kind = .function
 co : sc.isCoroutine = false
 gen : sc.isGenerator = false
 nd : N.Nodup
 pre : N.take P.length = P
 par : ∀ x ∈ P, sc.names.lookup x = some .local ∨ sc.names.lookup x = some .cell
 nofree : ∀ y ∈ sc.names, y.2 ≠ .free
theorem pf {kindOf : Str → Option NameKind} {x : Str} : ∀ {binds : List (Str × Value)} {m : Str → Option Value}, (∀ v, (x, v) ∉ binds) → bindL kindOf binds m x = m x
 | [], _, _ => rfl
 | (n, v) :: r, m, h => by
  unfold bindL
  rw [pf fun w hw => h w (List.mem_cons_of_mem _ hw)]
  split
  · have : x ≠ n := by rintro rfl; exact h v List.mem_cons_self
    simp [this]
  · rfl
theorem Pf {kindOf : Str → Option NameKind} {x : Str} : ∀ {binds : List (Str × Value)} {m : Str → Option Value}, (∀ v, (x, v) ∉ binds) → bindC kindOf binds m x = m x
 | [], _, _ => rfl
 | (n, v) :: r, m, h => by
  unfold bindC
  rw [Pf fun w hw => h w (List.mem_cons_of_mem _ hw)]
  split
  · rfl
  · have : x ≠ n := by rintro rfl; exact h v List.mem_cons_self
    simp [this]
theorem Pg {kindOf : Str → Option NameKind} {x : Str} {v : Value} : ∀ {P : List Str} {vs : List Value} {i : Nat} {m : Str → Option Value}, P.Nodup → P[i]? = some x → vs[i]? = some v → kindOf x = some .local →
 bindL kindOf (P.zip vs) m x = some v
 | [], _, _, _, _, h, _, _ => by simp at h
 | _ :: _, [], _, _, _, _, h, _ => by simp at h
 | p :: P, w :: vs, 0, m, nd, h1, h2, hk => by
  simp at h1 h2; subst h1; subst h2
  show bindL kindOf ((p, w) :: P.zip vs) m p = _
  unfold bindL
  rw [pf fun v hv => (List.nodup_cons.mp nd).1 (List.of_mem_zip hv).1, if_pos hk]
  simp
 | p :: P, w :: vs, i + 1, m, nd, h1, h2, hk => by
  show bindL kindOf ((p, w) :: P.zip vs) m x = _
  unfold bindL
  exact Pg (i := i) (List.nodup_cons.mp nd).2 (by simpa using h1) (by simpa using h2) hk
theorem ph {kindOf : Str → Option NameKind} {x : Str} {v : Value} : ∀ {P : List Str} {vs : List Value} {i : Nat} {m : Str → Option Value}, P.Nodup → P[i]? = some x → vs[i]? = some v → kindOf x ≠ some .local →
 bindC kindOf (P.zip vs) m x = some v
 | [], _, _, _, _, h, _, _ => by simp at h
 | _ :: _, [], _, _, _, _, h, _ => by simp at h
 | p :: P, w :: vs, 0, m, nd, h1, h2, hk => by
  simp at h1 h2; subst h1; subst h2
  show bindC kindOf ((p, w) :: P.zip vs) m p = _
  unfold bindC
  rw [Pf fun v hv => (List.nodup_cons.mp nd).1 (List.of_mem_zip hv).1, if_neg hk]
  simp
 | p :: P, w :: vs, i + 1, m, nd, h1, h2, hk => by
  show bindC kindOf ((p, w) :: P.zip vs) m x = _
  unfold bindC
  exact ph (i := i) (List.nodup_cons.mp nd).2 (by simpa using h1) (by simpa using h2) hk
def start (N : List Str) (vs : List V) : St := vs.map some ++ List.replicate (N.length - vs.length) none
def Dm (CX : CXT) (P : Program) (w : World) (K : W.Frag) (mg : Str → Option Value) (base : Heap) (N : List Str) (qual : Str) (scope : Scope) (f : Addr) (cd : Value) (A : Around) (outer : List Env) (s : Shared) (H : Hp) (E : XK) : Cx where
 prog := P
 w := w
 K := K
 mg := mg
 base := base
 A := A.deeper (envOfC qual scope s.heap.objs.size f cd)
 N := N
 s₀ := s
 H₀ := H
 env := envOfC qual scope s.heap.objs.size f cd
 outer := outer
 stack := envOfC qual scope s.heap.objs.size f cd :: outer
 ex := []
 calm := true
 fn := fun _ => true
 pn := []
 xe := fun e s' => wpAny (model P w) (A.deeper (envOfC qual scope s.heap.objs.size f cd)) (leaving (envOfC qual scope s.heap.objs.size f cd) e) (fun _ s'' => CX outer H s E e s'') (fun e' s'' => CX outer H s E e' s'') s'
theorem Ph {sc : Scope} {n : Nat} {x : Str} (h : sc.names.lookup x = some .cell) : ∃ c, (cellsFrom n sc.names []).lookup x = some c := by
 have q := W.cellsFrom_some sc.names n [] (.inl h)
 exact Option.isSome_iff_exists.mp q
theorem Xs {CX : CXT} {P : Program} {w : World} {K : W.Frag} {mg : Str → Option Value} {base : Heap} {N ps : List Str} {qual : Str} {scope : Scope} {f : Addr} {cd : Value} {A : Around} {outer : List Env} {s s1 : Shared} {H : Hp} {E : XK} {us : List Value} {vs : List V}
 (S : FnScope N ps scope) (hd : A.handled = none) (e0 : Env0 P w K mg base A outer s H) (hl : vs.length = ps.length) (r : Vals vs us)
 (x : InCallC s s.heap.objs.size (bindL (envOfC qual scope s.heap.objs.size f cd).kindOf (ps.zip us) fun _ => none) (cellsFrom (s.heap.objs.size + 1) scope.names []) (bindC (envOfC qual scope s.heap.objs.size f cd).kindOf (ps.zip us) fun _ => none) s1) :
 Inv (Dm CX P w K mg base N qual scope f cd A outer s H E) [] (start N vs) H s1 := by
 have hpl : ps.length ≤ N.length := by have := congrArg List.length S.pre; rw [List.length_take] at this; omega
 obtain ⟨h1, tk, rfl, hk⟩ := x.done
 have noA : ∀ b : Addr, b ∉ (Dm CX P w K mg base N qual scope f cd A outer s H E).ex := fun b z => absurd (show b ∈ ([] : List Addr) from z) (by simp)
 refine ⟨⟨e0.mod, S.kind, rfl, rfl, Nat.le_refl _, fun y z c h1 h2 => ?_, fun y hy => ?_, fun y c _ h => ?_, fun _ => hd, Around.frames_deeper e0.frames, .inr ⟨rfl, rfl⟩, fun b z => absurd z (noA b), e0.bs, e0.bsz, fun b _ _ => noA b, fun b z => absurd z (noA b), e0.funs, e0.frf⟩,
  rfl, e0.bare, Un.kept hk, ⟨_, x.toInCall.ns, fun i y v h1 h2 h3 => ?_⟩, fun y c h => ⟨_, x.cell y c h⟩, e0.hok.fresh (Nat.le_refl _), fun y c h => ?_, fun p hp => absurd (show p ∈ ([] : List (Addr × Obj)) from hp) (by simp), e0.hok.kept hk, ?_⟩
 · exact name_of_addr x.apart (PySem.mem_of_lookup h1) (PySem.mem_of_lookup h2)
 · have hy : scope.names.lookup y = some .cell ∨ scope.names.lookup y = some .free := hy
   rcases hy with hy | hy
   · exact Ph hy
   · exact absurd rfl (S.nofree _ (PySem.mem_of_lookup hy))
 · exact Nat.le_of_lt (x.above y c (PySem.mem_of_lookup h))
 · have hi : i < vs.length := by
    unfold start at h2
    by_cases hi : i < vs.length
    · exact hi
    · rw [List.getElem?_append_right (by simpa using hi)] at h2
      rw [List.getElem?_replicate] at h2
      split at h2 <;> cases h2
   have ha : vs[i]? = some v := by
    unfold start at h2
    rw [List.getElem?_append_left (by simpa using hi), List.getElem?_map] at h2
    cases e : vs[i]? with
    | none => rw [e] at h2; cases h2
    | some a => rw [e] at h2; cases h2; rfl
   obtain ⟨u, hu, rv⟩ := r.get ha
   have hp : ps[i]? = some y := by
    rw [← S.pre, List.getElem?_take_of_lt (by omega)]; exact h1
   have ndP : ps.Nodup := by rw [← S.pre]; exact S.nd.sublist (List.take_sublist _ _)
   refine ⟨u, rv, ?_⟩
   rcases S.par y (List.mem_of_getElem? hp) with k | k
   · exact .inl ⟨k, Pg ndP hp hu k⟩
   · obtain ⟨c, e⟩ := Ph (n := s.heap.objs.size + 1) k
     refine .inr ⟨.inl k, c, e, ?_⟩
     have q := x.cell y c e
     rw [ph ndP hp hu (by show scope.names.lookup y ≠ _; rw [k]; decide)] at q
     exact q
 · exact e0.hok.fresh (Nat.le_of_lt (x.above y c (PySem.mem_of_lookup h)))
 · unfold start
   show _ = N.length
   rw [List.length_append, List.length_map, List.length_replicate]
   omega
theorem xt {CX : CXT} {P : Program} {w : World} {K : W.Frag} {mg : Str → Option Value} {base : Heap} {k : Nat} {f : Addr} {name qual : Str} {params : Arguments} {body : List Stmt} {scope : Scope} {dV kV doc pm cdv ct oc : Value} {an od : Option Addr}
 {osl : Array (Option Value)} {N ps : List Str} {sp : Sp} (lk : K.lookup f = some ⟨oc, od, .func (W.fnOf name qual params body scope dV kV doc pm an cdv ct), osl⟩) (hcd : W.codeIn K cdv qual = true) (S : FnScope N ps scope)
 (len : ∀ vs H Q E, sp vs H Q E → vs.length = ps.length)
 (hbody : ∀ (A : Around) (outer : List Env) (s : Shared) (H : Hp) (vs : List V) (Q : VK) (E : XK), Room k (A.deeper (envOfC qual scope s.heap.objs.size f cdv)) → sp vs H Q E →
  ∃ t, PSs (Dm CX P w K mg base N qual scope f cdv A outer s H E) body t ∧ t { nx := fun _ H' => Q .non H', rt := Q } (start N vs) H) :
 FnOk P w K mg base CX (k + 1) f (W.fnOf name qual params body scope dV kV doc pm an cdv ct) ps sp := by
 refine ⟨len, fun A outer s H args us vs Q E hr e0 hb r hsp => ?_⟩
 have hl := len _ _ _ _ hsp
 have KX : K.In s.heap := e0.mod.kin.keeps fun b o e => (e0.bs b o e).1
 have lim : s.heap.NoLimit := e0.mod.nolimit.keeps fun b o e => (e0.bs b o e).1
 have hkind : ∀ y ∈ ps.zip us, scope.names.lookup y.1 = some .local ∨ (scope.names.lookup y.1 = some .cell ∧ ((cellsFrom (s.heap.objs.size + 1) scope.names []).lookup y.1).isSome = true) := fun ⟨n, v⟩ hy => by
  rcases S.par n (List.of_mem_zip hy).1 with q | q
  · exact .inl q
  · exact .inr ⟨q, W.cellsFrom_some _ _ _ (.inl q)⟩
 refine codeAny_call_function hr.depth (KX _ _ lk) rfl S.co S.gen rfl (W.codeRec_of KX hcd) (hb _ _ _ _ ?_)
 refine wpAny_newFunctionEnv_cells S.kind hkind fun env he s1 x => ?_
 subst he
 refine ⟨lim.keeps x.toInCall.keep, codeAny_func ?_⟩
 obtain ⟨t, ht, hq⟩ := hbody A outer s H vs Q E (hr.deeper _) hsp
 have I : Inv (Dm CX P w K mg base N qual scope f cdv A outer s H E) [] (start N vs) H s1 := Xs S hr.hd e0 hl r x
 refine wpAny_mono (ht [] s1 (start N vs) H _ I hq) (fun fl s' hs => ?_) fun e s' hs => hs
 have fin : ∀ {σ' : St} {H' : Hp} {v : V} {u : Value}, Inv (Dm CX P w K mg base N qual scope f cdv A outer s H E) [] σ' H' s' → RelV v u → Q v H' → CE outer P w H s Q u s' :=
  fun {σ' H' v u} J rv q => ⟨v, H', J.os, J.bare, J.base, J.hok, rv, q⟩
 cases fl with
 | ret u =>
  obtain ⟨v, σ', H', J, rv, q⟩ := hs
  exact fin J rv q
 | next =>
  obtain ⟨σ', H', J, q⟩ := hs
  exact fin (v := V.non) (u := Value.none) J rfl q
 | brk =>
  obtain ⟨_, _, _, q⟩ := hs
  exact False.elim q
 | cont =>
  obtain ⟨_, _, _, q⟩ := hs
  exact False.elim q
section
variable {X : Cx} {x : Str} {p pos : Pos} {e : Expr} {es : List Expr} {t : TA} {id T : String} {r : List V → Hp → VK → Prop}
def tCB (r : List V → Hp → VK → Prop) (t : TA) : TE := fun σ H Q => t σ H fun vs H1 => r vs H1 Q
theorem jj (hc : dm X (.builtin id) r) (hg : Gl X x) (hm : X.mg x = none) (hv : bootBuiltins x = some (.builtin id)) (ha : PA X (e :: es) t) (hn : x ≠ "__name__" := by decide) (hdb : (x == ("__debug__" : Str)) = false := by decide)
 (he : starEach (e :: es) X.env = (false, eval e X.env) :: starEach es X.env := by rfl) (hpl : (backTo pos (starEach es X.env)).any (·.1) = false := by rfl) : PE X (.Call (.Name x p) (e :: es) [] pos) (tCB r t) := by
 intro pins s σ H Q I h
 refine wpAny_Call_Name_kw (gz I hg hm hv ?_ hn hdb)
 exact PyProof.Rows.callWith_builtin1 (thn (ha pos pins s σ H _ I h) fun us s1 ⟨vs, H1, I1, r1, q1⟩ => hc pins s1 σ H1 vs us Q I1 r1 q1) he hpl
theorem Xt (hc : dm X (.type T) r) (hg : Gl X x) (hm : X.mg x = none) (hv : bootBuiltins x = some (.type T)) (ha : PA X (e :: es) t) (hn : x ≠ "__name__" := by decide) (hdb : (x == ("__debug__" : Str)) = false := by decide)
 (he : starEach (e :: es) X.env = (false, eval e X.env) :: starEach es X.env := by rfl) (hpl : (backTo pos (starEach es X.env)).any (·.1) = false := by rfl) : PE X (.Call (.Name x p) (e :: es) [] pos) (tCB r t) := by
 intro pins s σ H Q I h
 refine wpAny_Call_Name_kw (gz I hg hm hv ?_ hn hdb)
 exact PyProof.Rows.callWith_type1 (thn (ha pos pins s σ H _ I h) fun us s1 ⟨vs, H1, I1, r1, q1⟩ => hc pins s1 σ H1 vs us Q I1 r1 q1) he hpl
end
end L2
namespace HT
open PySem PyProof.Rows
section
open PySem.SeqAt
open PySem.AutoSeq1 (wpAny_loadPart')
open PySem.MeetsSeq PySem.MeetsSeq2 PySem.MeetsSeq3
end
section
variable {prog : Program} {w : World} {A : Around} {E : Value → Shared → Prop} {s : Shared}
def sIx (n d : Nat) : Option Int → Nat
 | none => d
 | some v => if v < 0 then (v + (n : Int)).toNat else min v.toNat n
theorem pj (n d : Nat) : sIx n d none = d := rfl
theorem Pj (n d k : Nat) : sIx n d (some (k : Int)) = min k n := by
 show (if (k : Int) < 0 then ((k : Int) + (n : Int)).toNat else min (k : Int).toNat n) = min k n
 rw [if_neg (by omega), Int.toNat_natCast]
theorem xu (n d : Nat) (hd : d ≤ n) (o : Option Int) : sIx n d o ≤ n := by
 cases o with
 | none => exact hd
 | some v =>
  show (if v < 0 then (v + (n : Int)).toNat else min v.toNat n) ≤ n
  by_cases hv : v < 0
  · rw [if_pos hv]; omega
  · rw [if_neg hv]; exact Nat.min_le_right _ _
theorem Pk (v : Int) (n d : Nat) : (if v < 0 then max (v + (n : Int)) 0 else min v (n : Int)) = ((sIx n d (some v) : Nat) : Int) := by
 show (if v < 0 then max (v + (n : Int)) 0 else min v (n : Int)) = (((if v < 0 then (v + (n : Int)).toNat else min v.toNat n) : Nat) : Int)
 by_cases hv : v < 0
 · simp only [if_pos hv]; omega
 · simp only [if_neg hv]; omega
theorem Xu (lo hi : Option Int) (n : Nat) : Builtin.Slice.sliceAdjust lo hi 1 (n : Int) = (((sIx n 0 lo : Nat) : Int), ((sIx n n hi : Nat) : Int)) := by
 have h1 : ¬ ((1 : Int) < 0) := by omega
 unfold Builtin.Slice.sliceAdjust
 simp only [h1, if_false]
 refine Prod.ext ?_ ?_
 · cases lo with
   | none => rfl
   | some v => exact Pk v n 0
 · cases hi with
   | none => rfl
   | some v => exact Pk v n n
theorem xv (i j : Nat) : Builtin.Slice.slicePlaces (i : Int) (j : Int) 1 = j - i := by
 unfold Builtin.Slice.slicePlaces
 have h1 : (1 : Int) > 0 := by omega
 simp only [h1, if_true, Int.ediv_one]
 split <;> omega
theorem Pl (p : IsPart v o) (h : Q o s) : wpAny (model prog w) A (Builtin.Slice.slicePartIndex v) Q E s := by
 cases p with
 | none => exact slicePart_none h
 | int i t => exact slicePart_int h
theorem Pm {sl : Addr} {vl vu : Value} {lo hi : Option Int} {n : Nat} {Q : Int × Int × Nat → Shared → Prop} (hs : s.heap.IsSliceOf sl vl vu .none) (pl : IsPart vl lo) (pu : IsPart vu hi)
 (h : Q (((sIx n 0 lo : Nat) : Int), 1, sIx n n hi - sIx n 0 lo) s) : wpAny (model prog w) A (Builtin.Slice.sliceApplied (.ref sl) (pure (n : Int))) Q E s := by
 obtain ⟨os, hos, hcs, hds⟩ := id hs
 unfold Builtin.Slice.sliceApplied Builtin.Slice.sliceFields
 refine wpAny_bind (wpAny_bind (wpAny_field hos hds (x := vl) rfl (wpAny_bind (wpAny_field hos hds (x := vu) rfl (wpAny_bind (wpAny_field hos hds (x := .none) rfl (wpAny_pure ?_)))))))
 refine wpAny_bind (slicePart_none ?_)
 show wpAny _ _ (if ((1 : Int) == 0) = true then _ else _) _ _ s
 rw [if_neg (by decide)]
 refine wpAny_bind (Pl pl (wpAny_bind (Pl pu (wpAny_bind (wpAny_pure ?_)))))
 show wpAny _ _ (match Builtin.Slice.sliceAdjust lo hi 1 (n : Int) with | (lo, hi) => pure (lo, (1 : Int), Builtin.Slice.slicePlaces lo hi 1)) _ _ s
 rw [Xu lo hi n]
 show wpAny _ _ (pure (((sIx n 0 lo : Nat) : Int), (1 : Int), Builtin.Slice.slicePlaces ((sIx n 0 lo : Nat) : Int) ((sIx n n hi : Nat) : Int) 1)) _ _ s
 rw [xv]
 exact wpAny_pure h
theorem Xv (xs : Array Value) (i k : Nat) : ((List.range k).filterMap fun (m : Nat) => xs[((i : Int) + (m : Int) * 1).toNat]?).toArray = ((xs.toList.drop i).take k).toArray := by
 have e : (fun (m : Nat) => xs[((i : Int) + (m : Int) * 1).toNat]?) = fun m => xs[i + m]? := by
  funext m
  have : ((i : Int) + (m : Int) * 1).toNat = i + m := by omega
  rw [this]
 rw [e]
 have := pick_run xs i k
 rw [List.filterMap_map] at this
 have e2 : ((fun x => xs[x]?) ∘ fun x => i + x) = fun m => xs[i + m]? := rfl
 rw [e2] at this
 rw [this]
theorem xw {t sl : Addr} {items : Array Value} {vl vu : Value} {lo hi : Option Int} {Q : Value → Shared → Prop} (ht : IsTup s.heap t items) (hs : s.heap.IsSliceOf sl vl vu .none) (pl : IsPart vl lo) (pu : IsPart vu hi)
 (hw : ¬ (sIx items.size 0 lo = 0 ∧ sIx items.size items.size hi = items.size))
 (h : Q (.ref s.heap.objs.size) { s with heap := s.heap.push { cls := .type "tuple", data := .seq ((items.toList.drop (sIx items.size 0 lo)).take (sIx items.size items.size hi - sIx items.size 0 lo)).toArray } })
 (hsz : items.size ≤ sizeLine) : wpAny (model prog w) A (getItem (.ref t) (.ref sl)) Q E s := by
 have htake : sizeOk (.seq ((items.toList.drop (sIx items.size 0 lo)).take (sIx items.size items.size hi - sIx items.size 0 lo)).toArray) := by
  show ((items.toList.drop (sIx items.size 0 lo)).take (sIx items.size items.size hi - sIx items.size 0 lo)).toArray.size ≤ sizeLine
  rw [List.size_toArray, List.length_take, List.length_drop, Array.length_toList]
  omega
 have hj : sIx items.size items.size hi ≤ items.size := xu _ _ (Nat.le_refl _) hi
 obtain ⟨os, hos, hcs, hds⟩ := id hs
 have hTs : s.TypeIs (.ref sl) "slice" := ⟨os, hos, hcs⟩
 unfold getItem
 try with_reducible refine wpAny_holding ?_
 first | refine wpAny_bind (wpAny_pure ?_) | skip
 refine wpAny_bind (wpAny_sequenceKey ht.typeIs (by decide) ?_)
 refine wpAny_bind (wpAny_callSpecial?_slot (name := Str.ofString "__getitem__") ht.typeIs PyProof.Rows.slot_tuple_getitem
  (wpAny_call_entry PyProof.Rows.slot_tuple_getitem ht.typeIs entry_tuple_getitem ?_ (args_tuple_getitem _ _)))
 show wpAny _ _ (Builtin.Tuple.tupleItemsOf (.ref t) >>= _) _ _ s
 refine wpAny_bind (tupleItemsOf_ ht ?_)
 refine wpAny_bind (wpAny_typeOf hTs ?_)
 rw [if_pos (by decide)]
 refine wpAny_bind (Pm hs pl pu ?_)
 have hno : ¬ ((((sIx items.size 0 lo : Nat) : Int) == 0 && (1 : Int) == 1 && (sIx items.size items.size hi - sIx items.size 0 lo) == items.size) = true) := by
  intro q
  rw [Bool.and_eq_true, Bool.and_eq_true] at q
  have q1 : ((sIx items.size 0 lo : Nat) : Int) = 0 := eq_of_beq q.1.1
  have q2 : sIx items.size items.size hi - sIx items.size 0 lo = items.size := eq_of_beq q.2
  exact hw ⟨by omega, by omega⟩
 show wpAny _ _ (if (((sIx items.size 0 lo : Nat) : Int) == 0 && (1 : Int) == 1 && (sIx items.size items.size hi - sIx items.size 0 lo) == items.size) = true then _ else _) _ _ s
 rw [if_neg hno, Xv]
 first
  | exact wpAny_bind (m := Builtin.Tuple.tupleExact _) (wpAny_newObj_type (wpAny_pure ⟨_, rfl, wpAny_pure h⟩) htake)
  | exact wpAny_bind (m := Builtin.Tuple.tupleExact _) (wpAny_newObj_type (wpAny_bind (wpAny_pure (wpAny_pure ⟨_, rfl, wpAny_pure h⟩))) htake)
  | exact wpAny_bind (wpAny_bind (m := Builtin.Tuple.tupleExact _) (wpAny_newObj_type (wpAny_pure (wpAny_pure ⟨_, rfl, wpAny_pure h⟩)) htake))
  | exact wpAny_bind (wpAny_bind (m := Builtin.Tuple.tupleExact _) (wpAny_newObj_type (wpAny_pure ⟨_, rfl, wpAny_pure h⟩) htake))
end
end HT
namespace L2
open PySem PySem.Spec PyProof.Rows
abbrev TO := St → Hp → (Option Int → Hp → Prop) → Prop
def PO (X : Cx) (e : Option Expr) (t : TO) : Prop :=
 ∀ (pins : List (Addr × Obj)) (s : Shared) (σ : St) (H : Hp) (Q : Option Int → Hp → Prop), Inv X pins σ H s → t σ H Q →
  wpAny (model X.prog X.w) X.A (evalPart e X.env) (fun u s' => ∃ o H', Inv X pins σ H' s' ∧ IsPart u o ∧ Q o H') X.xe s
def Xw : TO := fun _ H Q => Q none H
def xx (t : TE) : TO := fun σ H Q => t σ H fun x H1 => ∃ i, x = .int i ∧ Q (some i) H1
section
variable {X : Cx} {e : Expr} {te : TE} {lo hi : Option Expr} {tl th : TO} {pos p2 : Pos}
theorem Pn : PO X none Xw := by
 intro pins s σ H Q I h
 rw [evalPart_none]
 exact wpAny_pure ⟨none, H, I, .none, h⟩
theorem Po (h : PE X e te) : PO X (some e) (xx te) := by
 intro pins s σ H Q I hw
 rw [evalPart_some]
 refine thn (h pins s σ H _ I hw) fun u s1 ⟨x, H1, I1, r1, q1⟩ => ?_
 obtain ⟨i, rfl, q⟩ := q1
 obtain ⟨t, rfl⟩ := r1
 exact ⟨some i, H1, I1, .int i t, q⟩
def SlR (X : Cx) (r : V → Option Int → Option Int → Hp → VK → Prop) : Prop :=
 ∀ (pins : List (Addr × Obj)) (s : Shared) (σ : St) (H : Hp) (x : V) (v vl vu : Value) (lo hi : Option Int) (sl : Addr) (Q : VK), Inv X pins σ H s → RelV x v → s.heap.IsSliceOf sl vl vu .none → IsPart vl lo → IsPart vu hi → r x lo hi H Q →
  ∃ T id, typeLookup (.type T) "__getitem__" = pure (some (.builtin id)) ∧ s.TypeIs v T ∧ wpAny (model X.prog X.w) X.A (getItem v (.ref sl)) (EP X pins σ Q) X.xe s
theorem SlR.or (h : SlR X r) (h' : SlR X r') : SlR X (fun x lo hi H Q => r x lo hi H Q ∨ r' x lo hi H Q) := by
 intro pins s σ H x v vl vu lo hi sl Q I rx hs pl pu q
 rcases q with q | q
 · exact h pins s σ H x v vl vu lo hi sl Q I rx hs pl pu q
 · exact h' pins s σ H x v vl vu lo hi sl Q I rx hs pl pu q
def tSl (r : V → Option Int → Option Int → Hp → VK → Prop) (te : TE) (tl th : TO) : TE := fun σ H Q => te σ H fun x H1 => tl σ H1 fun l H2 => th σ H2 fun u H3 => r x l u H3 Q
theorem Pp (hr : SlR X r) (he : PE X e te) (hl : PO X lo tl) (hu : PO X hi th) : PE X (.Subscript e (.Slice lo hi none p2) pos) (tSl r te tl th) := by
 intro pins s σ H Q I h
 refine Subscript_ (thn (he pins s σ H _ I h) fun v s1 ⟨x, H1, I1, r1, q1⟩ => ?_)
 refine wpAny_Slice (thn (hl pins s1 σ H1 _ I1 q1) fun vl s2 ⟨l, H2, I2, pl, q2⟩ => thn (hu pins s2 σ H2 _ I2 q2) fun vu s3 ⟨u, H3, I3, pu, q3⟩ => ?_)
 rw [evalPart_none]
 refine wpAny_pure ?_
 have I4 : Inv X pins σ H3 { s3 with heap := s3.heap.push { cls := .type "slice", data := .fields #[vl, vu, .none] } } := I3.kept (t' := s3.toks) fun b ob q => Heap.get?_push_of_some _ q
 obtain ⟨T, id, hT, ht, hg⟩ := hr pins { s3 with heap := s3.heap.push { cls := .type "slice", data := .fields #[vl, vu, .none] } } σ H3 x v vl vu l u s3.heap.objs.size Q I4 r1 (Heap.IsSliceOf.new ..) pl pu q3
 show wpAny (model X.prog X.w) X.A (subscriptTail e (.Slice lo hi none p2) v (.ref s3.heap.objs.size)) (EP X pins σ Q) X.xe { s3 with heap := s3.heap.push { cls := .type "slice", data := .fields #[vl, vu, .none] } }
 exact tail_any (ops := [.ref s3.heap.objs.size, v]) ht hT hg (by with_unfolding_all rfl)
def eh (xs : List V) (lo hi : Option Int) : List V := (xs.drop (HT.sIx xs.length 0 lo)).take (HT.sIx xs.length xs.length hi - HT.sIx xs.length 0 lo)
theorem pq (xs : List V) (lo hi : Option Int) : (eh xs lo hi).length ≤ xs.length := by
 unfold eh
 rw [List.length_take, List.length_drop]
 omega
def Pq (K : W.Frag) : V → Option Int → Option Int → Hp → VK → Prop := fun x lo hi H Q => ∃ a xs, x = .ref a ∧ SqT K H a xs ∧
 ¬ (HT.sIx xs.length 0 lo = 0 ∧ HT.sIx xs.length xs.length hi = xs.length) ∧ ∀ p, H p = none → Q (.ref p) (upd H p (.tup (eh xs lo hi)))
theorem Xx : SlR X (Pq X.K) := by
 intro pins s σ H x v vl vu lo hi sl Q I rx hs pl pu h
 obtain ⟨a, xs, rfl, hx, hw, q⟩ := h
 cases rx
 obtain ⟨its, r, ht, hz⟩ := I.tuple hx
 have hlen : its.toArray.size = xs.length := by rw [List.size_toArray]; exact r.length.symm
 refine ⟨"tuple", _, PyProof.Rows.slot_tuple_getitem.lookup, ht.typeIs, ?_⟩
 refine HT.xw ht hs pl pu (by rw [hlen]; exact hw) ?_ (by rw [hlen]; exact hz)
 rw [hlen]
 refine ⟨.ref s.heap.objs.size, _, I.laid (t' := s.toks) (o := .tup (eh xs lo hi)) (fun b ob q => Heap.get?_push_of_some _ q) (Nat.le_refl _) ?_, rfl, q _ (I.hok.fresh (Nat.le_refl _))⟩
 exact ⟨Nat.le_trans (pq xs lo hi) hz, _, (r.drop (HT.sIx xs.length 0 lo)).take (HT.sIx xs.length xs.length hi - HT.sIx xs.length 0 lo), IsTup.new _ _⟩
end
def ixN (n : Nat) (i : Int) : Option Nat := if 0 ≤ i then (if i < n then some i.toNat else none) else if -(n : Int) ≤ i then some (i + n).toNat else none
def atI {α : Type} (xs : List α) (i : Int) : Option α := (ixN xs.length i).bind fun j => xs[j]?
theorem xy (h : ixN n i = some j) : seqIndex? i n = some j ∧ j < n ∧ -(n : Int) ≤ i ∧ i < n := by
 unfold ixN at h
 by_cases h0 : 0 ≤ i
 · rw [if_pos h0] at h
   by_cases h1 : i < n
   · rw [if_pos h1] at h
     have e : i.toNat = j := Option.some.inj h
     exact ⟨by rw [seqIndex_of h0 h1, e], by omega, by omega, h1⟩
   · rw [if_neg h1] at h; cases h
 · rw [if_neg h0] at h
   by_cases h1 : -(n : Int) ≤ i
   · rw [if_pos h1] at h
     have e : (i + n).toNat = j := Option.some.inj h
     exact ⟨by rw [seqIndex_neg (by omega) h1, e], by omega, h1, by omega⟩
   · rw [if_neg h1] at h; cases h
theorem md {α : Type} {xs : List α} {i : Int} {v : α} (h : atI xs i = some v) : ∃ j, seqIndex? i xs.length = some j ∧ xs[j]? = some v ∧ j < xs.length ∧ -(xs.length : Int) ≤ i ∧ i < xs.length := by
 unfold atI at h
 cases e : ixN xs.length i with
 | none => rw [e] at h; cases h
 | some j =>
  rw [e] at h
  obtain ⟨h1, h2, h3, h4⟩ := xy e
  exact ⟨j, h1, h, h2, h3, h4⟩
def Kc (b : Expr) : Prop := ∀ o i, subscripted b false o i = operate [o, i] (getItem o i)
def IxR (X : Cx) (r : R2) : Prop :=
 ∀ (value slice : Expr) (pins : List (Addr × Obj)) (s : Shared) (σ : St) (H : Hp) (x y : V) (v u : Value) (Q : VK), Inv X pins σ H s → RelV x v → RelV y u → r x y H Q →
  subscripted slice false v u = operate [v, u] (getItem v u) → wpAny (model X.prog X.w) X.A (subscriptTail value slice v u) (EP X pins σ Q) X.xe s
def MtR (X : Cx) (id : String) (r : V → List V → Hp → VK → Prop) : Prop :=
 ∀ (pins : List (Addr × Obj)) (s : Shared) (σ : St) (H : Hp) (x : V) (xs : List V) (v : Value) (us : List Value) (Q : VK), Inv X pins σ H s → RelV x v → Vals xs us → r x xs H Q →
  wpAny (model X.prog X.w) X.A (call (.builtin id) (v :: us)) (EP X pins σ Q) X.xe s
section
variable {X : Cx} {a b : Expr} {ta tb : TE} {pos : Pos}
theorem IxR.or (h : IxR X r) (h' : IxR X r') : IxR X (fun x y H Q => r x y H Q ∨ r' x y H Q) := by
 intro value slice pins s σ H x y v u Q I rx ry q hs
 rcases q with q | q
 · exact h value slice pins s σ H x y v u Q I rx ry q hs
 · exact h' value slice pins s σ H x y v u Q I rx ry q hs
theorem Md (hr : IxR X r) (ha : PE X a ta) (hb : PE X b tb) (hs : Kc b) : PE X (.Subscript a b pos) (tOp r ta tb) := by
 intro pins s σ H Q I h
 exact Subscript_ (ly ha hb I h fun v u s2 x y H2 I2 rx ry q => hr a b pins s2 σ H2 x y v u Q I2 rx ry q (hs _ _))
def Pt (K : W.Frag) : R2 := fun x y H Q => ∃ p xs i v, x = .ref p ∧ y = .int i ∧ SqL K H p xs ∧ atI xs i = some v ∧ Q v H
def Pu (K : W.Frag) : R2 := fun x y H Q => ∃ p xs i v, x = .ref p ∧ y = .int i ∧ SqT K H p xs ∧ atI xs i = some v ∧ Q v H
def pw : R2 := fun x y H Q => ∃ z i c, x = .str z ∧ y = .int i ∧ z.length ≤ sizeLine ∧ atI z.cps.toList i = some c ∧ Q (.str ⟨#[c]⟩) H
theorem Xy : IxR X (Pt X.K) := by
 intro value slice pins s σ H x y v u Q I rx ry h hs
 obtain ⟨p, xs, i, z, rfl, rfl, hq, he, q⟩ := h
 cases rx
 obtain ⟨t, rfl⟩ := ry
 obtain ⟨its, r, pl, hz⟩ := I.list hq
 obtain ⟨j, h1, h2, h3, h4, h5⟩ := md he
 obtain ⟨w, ew, rw'⟩ := r.get h2
 have hl := r.length
 have hn := Il
 have fin : EP X pins σ Q w s := ⟨z, H, I, rw', q⟩
 by_cases h0 : 0 ≤ i
 · have hj : i.toNat = j := by
    rw [seqIndex_of h0 h5] at h1
    exact Option.some.inj h1
   exact item_listR pl.isList h0 (by omega) (by rw [hj]; simpa using ew) fin hs
 · have hj : (i + (its.toArray.size : Int)).toNat = j := by
    rw [seqIndex_neg (by omega) h4] at h1
    rw [List.size_toArray, ← hl]
    exact Option.some.inj h1
   exact subscriptTail_builtinR (x := w) pl.isList.typeIs slot_list_getitem.lookup
    (wpAny_getItem_list_neg (Q := fun r s' => r = w ∧ EP X pins σ Q r s') pl.isList (by omega) (by rw [List.size_toArray] <;> omega) (by omega) (by rw [hj]; simpa using ew) ⟨rfl, fin⟩) hs
theorem Xz : IxR X (Pu X.K) := by
 intro value slice pins s σ H x y v u Q I rx ry h hs
 obtain ⟨p, xs, i, z, rfl, rfl, hq, he, q⟩ := h
 cases rx
 obtain ⟨t, rfl⟩ := ry
 obtain ⟨its, r, pl, hz⟩ := I.tuple hq
 obtain ⟨j, h1, h2, h3, h4, h5⟩ := md he
 obtain ⟨w, ew, rw'⟩ := r.get h2
 have hl := r.length
 have hn := Il
 have fin : EP X pins σ Q w s := ⟨z, H, I, rw', q⟩
 exact subscriptTail_builtinR (x := w) pl.typeIs slot_tuple_getitem.lookup
  (getItem_tuple (j := j) (Q := fun r s' => r = w ∧ EP X pins σ Q r s') pl (by omega) (by omega) (by rw [List.size_toArray, ← hl]; exact h1) (by simpa using ew) ⟨rfl, fin⟩) hs
theorem ya : IxR X pw := by
 intro value slice pins s σ H x y v u Q I rx ry h hs
 obtain ⟨z, i, c, rfl, rfl, hz, he, q⟩ := h
 obtain ⟨t, rfl⟩ := rx
 obtain ⟨t', rfl⟩ := ry
 obtain ⟨j, h1, h2, h3, h4, h5⟩ := md he
 have hl : z.cps.toList.length = z.length := by simp [Str.length]
 rw [hl] at h1 h4 h5
 have hn := Il
 exact tail_any (typeIs_str s z t) slot_str_getitem.lookup (getItem_str (c := c) (by
  have e1 : decide (i < -(2 ^ 63 : Int)) = false := decide_eq_false (by omega)
  have e2 : decide (i ≥ 2 ^ 63) = false := decide_eq_false (by omega)
  rw [e1, e2, Bool.or_false]) (by rw [h1]; simpa using h2) ⟨.str ⟨#[c]⟩, H, I.tok _, ⟨_, rfl⟩, q⟩) hs
def rIx (K : W.Frag) : R2 := fun x y H Q => Pt K x y H Q ∨ Pu K x y H Q ∨ pw x y H Q
theorem Ya : IxR X (rIx X.K) := Xy.or (Xz.or ya)
theorem yb : dm X (.builtin "len") (fun xs H Q => ∃ p ys, xs = [.ref p] ∧ (SqL X.K H p ys ∨ SqT X.K H p ys) ∧ Q (.int ys.length) H) := by
 intro pins s σ H xs us Q I r h
 obtain ⟨p, ys, rfl, hq, q⟩ := h
 obtain ⟨u, rfl, rx⟩ := vals1 r
 cases rx
 have hn := Il
 rcases hq with hq | hq
 · obtain ⟨its, r', pl, hz⟩ := I.list hq
   have hlen := r'.length
   exact Calls.call_len_list pl.isList (by simp only [List.size_toArray] <;> omega) ⟨.int ys.length, H, I.tok _, ⟨s.toks + 1, by rw [List.size_toArray, hlen]⟩, q⟩
 · obtain ⟨its, r', pl, hz⟩ := I.tuple hq
   have hlen := r'.length
   exact len_tuple pl (by simp only [List.size_toArray] <;> omega) ⟨.int ys.length, H, I.tok _, ⟨s.toks + 1, by rw [List.size_toArray, hlen]⟩, q⟩
theorem Yb : dm X (.builtin "len") (fun xs H Q => ∃ z, xs = [.str z] ∧ z.length ≤ sizeLine ∧ Q (.int z.length) H) := by
 intro pins s σ H xs us Q I r h
 obtain ⟨z, rfl, hz, q⟩ := h
 obtain ⟨u, rfl, t, rfl⟩ := vals1 r
 have hn := Il
 exact len_str (by omega) ⟨.int z.length, H, I.tok _, ⟨_, rfl⟩, q⟩
theorem dm.or (h : dm X f r) (h' : dm X f r') : dm X f (fun xs H Q => r xs H Q ∨ r' xs H Q) := by
 intro pins s σ H xs us Q I rs q
 rcases q with q | q
 · exact h pins s σ H xs us Q I rs q
 · exact h' pins s σ H xs us Q I rs q
theorem yc : dm X (.type "list") (fun xs H Q => ∃ p ys, xs = [.ref p] ∧ (SqL X.K H p ys ∨ SqT X.K H p ys) ∧ ∀ l, H l = none → Q (.ref l) (upd H l (.lst ys))) := by
 intro pins s σ H xs us Q I r h
 obtain ⟨p, ys, rfl, hq, q⟩ := h
 obtain ⟨u, rfl, rx⟩ := vals1 r
 cases rx
 have fin : ∀ (its : List Value), Vals ys its → ys.length ≤ sizeLine → ∀ (h' : Heap) (c' : Nat), (∀ b o', s.heap.get? b = some o' → h'.get? b = some o') →
  h'.get? s.heap.objs.size = some { cls := .type "list", dict := none, data := .seq its.toArray c', slots := #[] } → EP X pins σ Q (.ref s.heap.objs.size) { s with heap := h' } := fun its r' hz h' c' kp e =>
  ⟨.ref s.heap.objs.size, _, I.laid (t' := s.toks) kp (Nat.le_refl _) (show bj X.prog X.w _ h' _ (.lst ys) from ⟨hz, its, c', r', e⟩), rfl, q _ (I.hok.fresh (Nat.le_refl _))⟩
 rcases hq with hq | hq
 · obtain ⟨its, r', pl, hz⟩ := I.list hq
   have hlen := r'.length
   obtain ⟨o, ho, hc, n, hd⟩ := pl.isList
   exact call_list_seq p (.inl rfl) ho hc hd (fun h' c' kp e => fin its r' hz h' c' kp e) (by simp only [List.size_toArray] <;> omega)
 · obtain ⟨its, r', pl, hz⟩ := I.tuple hq
   have hlen := r'.length
   obtain ⟨o, ho, hc, n, hd⟩ := pl
   exact call_list_seq p (.inr rfl) ho hc hd (fun h' c' kp e => fin its r' hz h' c' kp e) (by simp only [List.size_toArray] <;> omega)
def tyV (K : W.Frag) (T : String) (x : V) (H : Hp) : Prop := match x with
 | .str _ => T = "str"
 | .int _ => T = "int"
 | .ref p => (T = "list" ∧ ∃ xs, SqL K H p xs) ∨ (T = "tuple" ∧ ∃ o, K.lookup p = some o ∧ o.cls = .type "tuple" ∧ o.dict = none) ∨
  (T = "dict" ∧ ((∃ kvs, H p = some (.dK kvs)) ∨ ∃ kvs, H p = some (.dT kvs))) ∨ (T = "set" ∧ ∃ S n, H p = some (.set S n))
 | _ => False
theorem Pw {σ : St} (I : Inv X pins σ H s) (r : RelV x v) (ty : tyV X.K T x H) :
 s.TypeIs v T ∧ ∀ a, v = .ref a → ∃ ob, s.heap.get? a = some ob ∧ ob.dict = none := by
 cases x with
 | str z =>
  obtain ⟨t, rfl⟩ := r
  cases (show T = "str" from ty)
  exact ⟨typeIs_str s z t, fun _ e => nomatch e⟩
 | int i =>
  obtain ⟨t, rfl⟩ := r
  cases (show T = "int" from ty)
  exact ⟨typeIs_int s i t, fun _ e => nomatch e⟩
 | ref p =>
  cases r
  rcases ty with ⟨rfl, xs, hq⟩ | ⟨rfl, o, hk, hc, hd⟩ | ⟨rfl, hk⟩ | ⟨rfl, S, n, hk⟩
  · obtain ⟨its, _, pl, _⟩ := I.list hq
    refine ⟨pl.isList.typeIs, fun a e => ?_⟩
    cases e
    obtain ⟨o, n, e, c, hd, _⟩ := pl
    exact ⟨o, e, hd⟩
  · refine ⟨⟨o, I.kIn p o hk, hc⟩, fun a e => ?_⟩
    cases e
    exact ⟨o, I.kIn _ o hk, hd⟩
  · have z : ∃ o, s.heap.get? p = some o ∧ o.ExactDict := by
     rcases hk with ⟨kvs, hk⟩ | ⟨kvs, hk⟩
     · obtain ⟨_, _, _, _, o, _, _, e, ex, _⟩ := I.hok p _ hk
       exact ⟨o, e, ex⟩
     · obtain ⟨_, _, _, _, o, _, _, e, ex, _⟩ := I.hok p _ hk
       exact ⟨o, e, ex⟩
    obtain ⟨o, e, ex⟩ := z
    refine ⟨⟨o, e, ex.1⟩, fun a e2 => ?_⟩
    cases e2
    exact ⟨o, e, ex.2.1⟩
  · obtain ⟨o, _, _, _, e, ex, _⟩ := I.hok p _ hk
    refine ⟨⟨o, e, ex.1⟩, fun a e2 => ?_⟩
    cases e2
    exact ⟨o, e, ex.2.1⟩
 | _ => exact False.elim ty
def Yc (K : W.Frag) (T : String) (r : V → List V → Hp → VK → Prop) (to : TE) : TE := fun σ H Q => to σ H fun x H1 => tyV K T x H1 ∧ r x [] H1 Q
def tBM (K : W.Frag) (T : String) (r : V → List V → Hp → VK → Prop) (to : TE) (t : TA) : TE := fun σ H Q => to σ H fun x H1 => tyV K T x H1 ∧ t σ H1 fun xs H2 => r x xs H2 Q
variable {o e : Expr} {es : List Expr} {to : TE} {t : TA} {name : Str} {apos cpos : Pos} {T id : String} {r : V → List V → Hp → VK → Prop}
theorem yd (pa : PlainAttrs T) (slot : Slot T name id) (hty : typeOf (.builtin id) = pure (.type "method_descriptor")) (hm : MtR X id r) (ho : PE X o to)
 (hbase : attributeBase o name X.env (eval o X.env) = eval o X.env := by rfl) (hline : (apos.endLine == cpos.line) = true := by rfl) : PE X (.Call (.Attribute o name apos) [] [] cpos) (Yc X.K T r to) := by
 intro pins s σ H Q I h
 refine wpAny_Call_method0_late hbase hline (thn (ho pins s σ H _ I h) fun v s1 ⟨x, H1, I1, r1, ty, q1⟩ => ?_)
 obtain ⟨h1, h2⟩ := Pw I1 r1 ty
 exact ⟨T, id, pa, slot, hty, h1, h2, Calls.callWith_builtin rfl (PySem.evalArgs_none (hm pins s1 σ H1 x [] v [] Q I1 r1 .nil q1))⟩
theorem Px (pa : PlainAttrs T) (slot : Slot T name id) (hty : typeOf (.builtin id) = pure (.type "method_descriptor")) (hm : MtR X id r) (ho : PE X o to) (ha : PA X (e :: es) t)
 (hbase : attributeBase o name X.env (eval o X.env) = eval o X.env := by rfl)
 (hfew : ((backTo cpos (starEach (e :: es) X.env)).all (fun x => !x.1) && (backToKw cpos (keywordEach [] X.env)).all (fun x => x.1.isSome)
  && decide ((e :: es).length + ([] : List Keyword).length + (if ([] : List Keyword).isEmpty then 0 else 1) < 30)) = true := by rfl)
 (hline : (apos.endLine == cpos.line) = true := by rfl) (hs : starEach (e :: es) X.env = (false, eval e X.env) :: starEach es X.env := by rfl) (hplain : (backTo cpos (starEach es X.env)).any (·.1) = false := by rfl) :
 PE X (.Call (.Attribute o name apos) (e :: es) [] cpos) (tBM X.K T r to t) := by
 intro pins s σ H Q I h
 refine wpAny_Call_method_late hbase hfew hline rfl (thn (ho pins s σ H _ I h) fun v s1 ⟨x, H1, I1, r1, ty, q1⟩ => ?_)
 obtain ⟨h1, h2⟩ := Pw I1 r1 ty
 refine ⟨T, id, pa, slot, hty, h1, h2, ?_⟩
 have hA := ha cpos pins s1 σ H1 _ I1 q1
 rw [hs] at hA ⊢
 refine Calls.callWith_builtin (by show (false || (backTo cpos (starEach es X.env)).any (·.1)) = false; rw [hplain] <;> rfl) (Calls.evalArgs_plain ?_)
 exact thn hA fun us s2 ⟨vs, H2, I2, r2, q2⟩ => hm pins s2 σ H2 x vs v us Q I2 r1 r2 q2
end
def MtM (X : Cx) (id : String) (r : V → List V → Hp → VK → Prop) : Prop :=
 ∀ (pins : List (Addr × Obj)) (s : Shared) (σ : St) (H : Hp) (x : V) (xs : List V) (v : Value) (us : List Value) (Q : VK), Inv X pins σ H s → RelV x v → Vals xs us → r x xs H Q →
  wpAny (model X.prog X.w) X.A (call (.builtin id) (v :: us)) (EP X pins σ Q) X.xe s
theorem Vals.one : ∀ {x : V} {us : List Value}, Vals [x] us → ∃ u, us = [u] ∧ RelV x u
 | _, _, .cons r .nil => ⟨_, rfl, r⟩
theorem Vals.zero : ∀ {us : List Value}, Vals [] us → us = []
 | _, .nil => rfl
theorem Vals.dropLast (h : Vals xs us) : Vals xs.dropLast us.dropLast := by
 induction h with
 | nil => exact .nil
 | cons r t ih =>
  cases t with
  | nil => exact .nil
  | cons q t' => exact .cons r ih
theorem Vals.rep (h : Vals xs us) : ∀ k : Nat, Vals (List.replicate k xs).flatten (List.replicate k us).flatten
 | 0 => .nil
 | k + 1 => by
  rw [List.replicate_succ, List.replicate_succ, List.flatten_cons, List.flatten_cons]
  exact Vals.append h (Vals.rep h k)
theorem Yd {α : Type} (l : List α) : l.eraseIdx (l.length - 1) = l.dropLast := by
 induction l with
 | nil => rfl
 | cons a r ih =>
  cases r with
  | nil => rfl
  | cons b r =>
   have e : (a :: b :: r).length - 1 = ((b :: r).length - 1) + 1 := by
    have h1 : (a :: b :: r).length = r.length + 2 := rfl
    have h2 : (b :: r).length = r.length + 1 := rfl
    omega
   rw [e, List.eraseIdx_cons_succ, ih]
   all_goals rfl
theorem foldl_rep (its : List Value) : ∀ (k : Nat) (acc : List Value),
 List.foldl (fun x1 x2 => x1 ++ x2) acc.toArray (List.replicate k its.toArray) = (acc ++ (List.replicate k its).flatten).toArray
 | 0, acc => by simp
 | k + 1, acc => by
  have e : acc.toArray ++ its.toArray = (acc ++ its).toArray := by simp
  have e2 : (acc ++ its) ++ (List.replicate k its).flatten = acc ++ (List.replicate (k + 1) its).flatten := by
   rw [List.replicate_succ, List.flatten_cons, List.append_assoc]
  rw [← e2, ← foldl_rep its k (acc ++ its), ← e, List.replicate_succ, List.foldl_cons]
section
variable {X : Cx} {pins : List (Addr × Obj)} {σ : St} {H : Hp} {s : Shared} {l b : Addr} {xs ys zs : List V}
theorem Inv.lset {its its' : List Value} {n : Nat} {f : Array Value → Array Value} {t' : Nat} (I : Inv X pins σ H s) (hH : H l = some (.lst xs))
 (e : s.heap.get? l = some { cls := .type "list", data := .seq its.toArray n }) (hf : f its.toArray = its'.toArray) (hv : Vals ys its') (hz : ys.length ≤ sizeLine) :
 Inv X pins σ (upd H l (.lst ys)) { s with heap := s.heap.update l (Obj.mapSeq f), toks := t' } := by
 have q := PySem.IsL.update e f
 rw [hf] at q
 refine I.write (x := l) (e := l) (by rw [hH]; exact trivial) (.inl rfl) (fun b' u hb hu => (Heap.get?_update_other s.heap (Obj.mapSeq f) (Ne.symm hb)).trans hu) ⟨_, q⟩ ?_
 exact ⟨hz, its', _, hv, q⟩
theorem Inv.Ce (I : Inv X pins σ H s) (hv : Vals ys its) (hz : ys.length ≤ sizeLine) :
 Inv X pins σ (upd H s.heap.objs.size (.lst ys)) { s with heap := s.heap.push { cls := .type "list", data := .seq its.toArray }, toks := t' } :=
 I.laid (fun _ _ q => Heap.get?_push_of_some _ q) (Nat.le_refl _) ⟨hz, its, 0, hv, Heap.get?_push_size _ rfl⟩
theorem Inv.fresh (I : Inv X pins σ H s) : H s.heap.objs.size = none := I.hok.fresh (Nat.le_refl _)
theorem Inv.lstM (I : Inv X pins σ H s) (hH : H l = some (.lst xs)) : xs.length ≤ sizeLine ∧ ∃ (its : List Value) (n : Nat), Vals xs its ∧ xs.length = its.length ∧ s.heap.get? l = some { cls := .type "list", data := .seq its.toArray n } := by
 obtain ⟨z, its, n, r, e⟩ := I.hok l _ hH
 exact ⟨z, its, n, r, r.length, e⟩
theorem ye (h : n ≤ sizeLine) : Builtin.List.listTooLong n = false := by
 unfold Builtin.List.listTooLong
 exact decide_eq_false (by omega)
end
section
variable {X : Cx}
def Ye : V → List V → Hp → VK → Prop := fun x vs H Q => ∃ l xs y, x = .ref l ∧ vs = [y] ∧ H l = some (.lst xs) ∧ xs.length < sizeLine ∧ Q .non (upd H l (.lst (xs ++ [y])))
theorem Py : MtM X "list.append" Ye := by
 intro pins s σ H x vs v us Q I rx rv h
 obtain ⟨l, xs, y, rfl, rfl, hH, hz, q⟩ := h
 cases rx
 obtain ⟨u, rfl, ru⟩ := rv.one
 obtain ⟨z, its, n, r, hl, e⟩ := I.lstM hH
 refine call_meets F.slot_list_append ⟨_, e, rfl⟩ F.entry_list_append (F.args_list_append_2 _ _) (PySem.list_append l its.toArray n u (by rw [List.size_toArray]; omega)) ⟨e, ?_⟩
 refine ⟨.non, _, I.lset (its' := its ++ [u]) hH e (by simp) (r.append (.cons ru .nil)) ?_, rfl, q⟩
 rw [List.length_append, List.length_singleton]
 omega
def yf : V → List V → Hp → VK → Prop := fun x vs H Q => ∃ l xs y, x = .ref l ∧ vs = [] ∧ H l = some (.lst xs) ∧ xs[xs.length - 1]? = some y ∧ Q y (upd H l (.lst xs.dropLast))
theorem Yf : MtM X "list.pop" yf := by
 intro pins s σ H x vs v us Q I rx rv h
 obtain ⟨l, xs, y, rfl, rfl, hH, hy, q⟩ := h
 cases rx
 have hus := rv.zero
 subst hus
 obtain ⟨z, its, n, r, hl, e⟩ := I.lstM hH
 obtain ⟨u, hu, ru⟩ := r.get hy
 have hy' : its.toArray[its.toArray.size - 1]? = some u := by
  show its.toArray[its.length - 1]? = some u
  rw [← Array.getElem?_toList, ← hl]
  exact hu
 refine call_meets F.slot_list_pop ⟨_, e, rfl⟩ F.entry_list_pop (F.args_list_pop_1 _) (MeetsSeq.list_pop_last l its.toArray n u hy' (by rw [List.size_toArray]; omega)) ⟨e, ?_⟩
 refine ⟨y, _, I.lset (its' := its.dropLast) hH e ?_ r.dropLast ?_, ru, q⟩
 · show its.toArray.eraseIdxIfInBounds (its.toArray.size - 1) = its.dropLast.toArray
   rw [List.size_toArray, List.eraseIdxIfInBounds_toArray, Yd]
 · rw [List.length_dropLast]
   omega
def yg : R2 := fun x y H Q => ∃ l b xs zs, x = .ref l ∧ y = .ref b ∧ H l = some (.lst xs) ∧ H b = some (.lst zs) ∧ xs.length + zs.length ≤ sizeLine ∧ ∀ p, H p = none → Q (.ref p) (upd H p (.lst (xs ++ zs)))
theorem Yg : OpR X (binaryOp .Add) yg := by
 intro pins s σ H x y v u Q I rx ry h
 obtain ⟨l, b, xs, zs, rfl, rfl, hH, hB, hz, q⟩ := h
 cases rx
 cases ry
 obtain ⟨z, its, n, r, hl, e⟩ := I.lstM hH
 obtain ⟨z2, its2, n2, r2, hl2, e2⟩ := I.lstM hB
 refine PySem.P.add_list e e2 ?_ (by rw [List.size_toArray, List.size_toArray]; omega)
 have ea : its.toArray ++ its2.toArray = (its ++ its2).toArray := by simp
 rw [ea]
 exact ⟨.ref _, _, I.Ce (t' := s.toks) (r.append r2) (by rw [List.length_append]; omega), rfl, q _ I.fresh⟩
def yh : R2 := fun x y H Q => ∃ l k xs, x = .ref l ∧ y = .int k ∧ H l = some (.lst xs) ∧ -(2 ^ 63) ≤ k ∧ k < 2 ^ 63 ∧ xs.length * k.toNat ≤ sizeLine ∧
 ∀ p, H p = none → Q (.ref p) (upd H p (.lst (List.replicate k.toNat xs).flatten))
theorem len_rep {α : Type} (xs : List α) (k : Nat) : (List.replicate k xs).flatten.length = k * xs.length := by
 induction k with
 | zero => simp
 | succ k ih => rw [List.replicate_succ, List.flatten_cons, List.length_append, ih, Nat.succ_mul, Nat.add_comm]
theorem Yh : OpR X (binaryOp .Mult) yh := by
 intro pins s σ H x y v u Q I rx ry h
 obtain ⟨l, k, xs, rfl, rfl, hH, h1, h2, hz, q⟩ := h
 cases rx
 obtain ⟨t, rfl⟩ := ry
 obtain ⟨z, its, n, r, hl, e⟩ := I.lstM hH
 have hlen : its.toArray.size * k.toNat ≤ sizeLine := by rw [List.size_toArray, ← hl]; exact hz
 have hcap : ¬ its.toArray.size * k.toNat > (2 ^ 63 - 1) / 8 := by
  have : (sizeLine : Nat) ≤ (2 ^ 63 - 1) / 8 := by decide
  omega
 have hfit : ¬ (!Builtin.List.listFitsIndex k) = true := by
  rw [fitsIndex_both h1 h2]
  exact Bool.false_ne_true
 have hlong : ¬ Builtin.List.listTooLong (its.toArray.size * k.toNat) = true := by
  rw [ye hlen]
  exact Bool.false_ne_true
 have hnew : List.foldl (fun x1 x2 => x1 ++ x2) #[] (List.replicate (if its.toArray.isEmpty = true then 0 else k.toNat) its.toArray) = (List.replicate k.toNat its).flatten.toArray := by
  have f0 : ∀ m : Nat, List.foldl (fun x1 x2 => x1 ++ x2) #[] (List.replicate m its.toArray) = (List.replicate m its).flatten.toArray := fun m => by
   have := foldl_rep its m []
   rw [List.nil_append] at this
   exact this
  rw [f0]
  cases its with
  | nil => simp
  | cons a r' => rw [if_neg (by simp)]
 refine wpAny_binaryOp_repeat_ref (T := "list") (U := "int") (by decide) ⟨_, e, rfl⟩ (fun s' => typeIs_int s' k t) noFill_list_mul F.fills_int_mul F.slot_int_rmul repeat_list F.slot_int_index.lookup
  (call_meets F.slot_int_rmul (typeIs_int s k t) F.entry_int_rmul (F.args_int_rmul_2 _ _) (int___rmul___int_list k t l its.toArray n)
   ⟨e, rfl, ⟨_, e, rfl⟩, call_meets F.slot_list_mul ⟨_, e, rfl⟩ F.entry_list_mul (F.args_list_mul_2 _ _) (AutoListH.list___mul___list_int_3 l its.toArray n k t hfit hcap hlong) ⟨e, ?_⟩⟩)
 rw [hnew]
 exact ⟨.ref _, _, I.Ce (t' := s.toks) (r.rep k.toNat) (by rw [len_rep, Nat.mul_comm]; exact hz), rfl, q _ I.fresh⟩
end
section
variable {prog : Program} {w : World} {A : Around} {E : Value → Shared → Prop} {s : Shared}
end
section
variable {X : Cx}
end
section
variable {κ : Type} [DecidableEq κ]
def Cr (kvs : List (κ × V)) (k : κ) : Option V := (kvs.find? fun kv => decide (kv.1 = k)).map (·.2)
def putK (kvs : List (κ × V)) (k : κ) (v : V) : List (κ × V) :=
 if (kvs.any fun kv => decide (kv.1 = k)) = true then kvs.map (fun kv => if kv.1 = k then (kv.1, v) else kv) else kvs ++ [(k, v)]
theorem pz {p : κ × V} {r : List (κ × V)} {k : κ} (e : p.1 = k) : Cr (p :: r) k = some p.2 := by simp [Cr, List.find?_cons, e]
theorem Pz {p : κ × V} {r : List (κ × V)} {k : κ} (e : ¬ p.1 = k) : Cr (p :: r) k = Cr r k := by simp [Cr, List.find?_cons, e]
theorem qa (kvs : List (κ × V)) (k : κ) (v : V) : (putK kvs k v).length ≤ kvs.length + 1 := by
 unfold putK
 split
 · rw [List.length_map]; omega
 · rw [List.length_append, List.length_cons, List.length_nil]; omega
theorem Dh.getD (r : Dh o u) (rd : RelV d d') : RelV (o.getD d) (u.getD d') := by
 cases o with
 | none => cases u with
  | none => exact rd
  | some _ => exact (show False from r).elim
 | some _ => cases u with
  | none => exact (show False from r).elim
  | some _ => exact r
theorem KV.val {kvs : List (κ × V)} {vs : List (κ × Value)} (r : KV kvs vs) (k : κ) : Dh (Cr kvs k) (valueAt vs k) := by
 unfold KV at r
 induction r with
 | nil => exact True.intro
 | @cons p q ps qs h t ih =>
  obtain ⟨h1, h2⟩ := h
  by_cases e : p.1 = k
  · have e' : q.1 = k := h1.symm.trans e
    have b : valueAt (q :: qs) k = some q.2 := by simp [valueAt, List.find?_cons, e']
    rw [pz e, b]; exact h2
  · have e' : ¬ q.1 = k := fun z => e (h1.trans z)
    have b : valueAt (q :: qs) k = valueAt qs k := by simp [valueAt, List.find?_cons, e']
    rw [Pz e, b]; exact ih
theorem KV.any (r : KV kvs vs) (k : κ) : (kvs.any fun kv => decide (kv.1 = k)) = vs.any fun kv => decide (kv.1 = k) := by
 unfold KV at r
 induction r with
 | nil => rfl
 | cons h t ih => rw [List.any_cons, List.any_cons, ih, h.1]
theorem KV.repl (r : KV kvs vs) (k : κ) (ry : RelV y u) :
 KV (kvs.map fun kv => if kv.1 = k then (kv.1, y) else kv) (vs.map fun kv => if kv.1 = k then (kv.1, u) else kv) := by
 unfold KV at r ⊢
 induction r with
 | nil => exact .nil
 | @cons p q ps qs h t ih =>
  rw [List.map_cons, List.map_cons]
  refine .cons ?_ ih
  obtain ⟨h1, h2⟩ := h
  by_cases e : p.1 = k
  · rw [if_pos e, if_pos (h1.symm.trans e)]; exact ⟨h1, ry⟩
  · rw [if_neg e, if_neg (fun z => e (h1.trans z))]; exact ⟨h1, h2⟩
theorem KV.put (r : KV kvs vs) (k : κ) (ry : RelV y u) : KV (putK kvs k y) (stored vs k u) := by
 unfold putK stored
 rw [r.any k]
 by_cases e : (vs.any fun kv => decide (kv.1 = k)) = true
 · rw [if_pos e, if_pos e]; exact r.repl k ry
 · rw [if_neg e, if_neg e]; exact Paired.snoc r ⟨rfl, ry⟩
theorem KV.length {kvs : List (κ × V)} {vs : List (κ × Value)} (r : KV kvs vs) : kvs.length = vs.length := Paired.length r
end
theorem ke (r : RelV (kV k) u) : (Cn P w).is k u = true := by
 cases k with
 | inl i => obtain ⟨t, e⟩ := (show ∃ t, u = Value.int i t from r); subst e; exact vh P w i t
 | inr x => obtain ⟨t, e⟩ := (show ∃ t, u = Value.str x t from r); subst e; exact Vh P w x t
theorem Qa : ∀ {ks : List Key} {us : List Value}, Vals (ks.map kV) us → ItemsAre (Cn P w) ks us
 | [], _, r => by rw [List.map_nil] at r; cases r; exact .nil
 | k :: ks, _, r => by
  rw [List.map_cons] at r
  cases r with
  | cons h t => exact .cons (ke h) (Qa t)
abbrev KT (H : Hp) : List (List Key × V) → List (List Key × Addr × Value) → Prop := Paired fun p q => p.1 = q.1 ∧ H q.2.1 = some (.tup (p.1.map kV)) ∧ RelV p.2 q.2.2
theorem KT.val {H : Hp} {kvs : List (List Key × V)} {xs : List (List Key × Addr × Value)} (r : KT H kvs xs) (k : List Key) : Dh (Cr kvs k) ((atKey xs k).map (·.2)) := by
 induction r with
 | nil => exact True.intro
 | @cons p q ps qs h t ih =>
  obtain ⟨h1, _, h2⟩ := h
  by_cases e : p.1 = k
  · have e' : q.1 = k := h1.symm.trans e
    have b : atKey (q :: qs) k = some q.2 := by simp [atKey, List.find?_cons, e']
    rw [pz e, b]; exact h2
  · have e' : ¬ q.1 = k := fun z => e (h1.trans z)
    have b : atKey (q :: qs) k = atKey qs k := by simp [atKey, List.find?_cons, e']
    rw [Pz e, b]; exact ih
section
variable {P : Program} {w : World} {H : Hp} {h : Heap} {a : Addr}
theorem qb (ok : HOk P w H h) (e : Rd H a u) : bj P w H h a u := e.ok ok
theorem me (ok : HOk P w H h) (e : Rd H a (.dK kvs)) : kvs.length ≤ sizeLine ∧ (a == sysModules) = false ∧ ∃ vs, KV kvs vs ∧ h.DictOf (Cn P w) a vs :=
 show bj P w H h a (.dK kvs) from qb ok e
theorem Me (ok : HOk P w H h) (e : H a = some (.dK kvs)) : kvs.length ≤ sizeLine ∧ (a == sysModules) = false ∧ ∃ vs, KV kvs vs ∧ h.DictOf (Cn P w) a vs := me ok (.inl e)
theorem Qb (ok : HOk P w H h) (e : H a = some (.tup (ks.map kV))) : (tupleKind (Cn P w)).is h ks a := by
 obtain ⟨_, its, r, o, h1, h2, n, h3⟩ := (show bj P w H h a (.tup (ks.map kV)) from ok a _ e)
 exact ⟨o, its.toArray, n, h1, h2, h3, by simpa using Qa r⟩
theorem qc (ok : HOk P w H h) (e : Rd H a (.dT kvs)) : kvs.length ≤ sizeLine ∧ (a == sysModules) = false ∧
 ∃ xs, KT H kvs xs ∧ h.DictOfH (tupleKind (Cn P w)) a xs := by
 obtain ⟨z, y, xs, r, o, es, ep, h1, h2, h3, h4, h5⟩ := (show bj P w H h a (.dT kvs) from qb ok e)
 refine ⟨z, y, xs, r, o, es, ep, h1, h2, h3, h4, fun x hx => ?_, h5⟩
 have all : ∀ {l : List (List Key × V)} {m : List (List Key × Addr × Value)}, KT H l m → ∀ x ∈ m, (tupleKind (Cn P w)).is h x.1 x.2.1 := by
  intro l m q
  induction q with
  | nil => intro x hx; exact nomatch hx
  | @cons p q ps qs hq t ih =>
   intro x hx
   rcases List.mem_cons.mp hx with e | hx
   · subst e
     exact Qb ok (by rw [← hq.1]; exact hq.2.1)
   · exact ih x hx
 exact all r x hx
end
def Jj (H : Hp) (a : Addr) (y : V) (r : Option V) : Prop :=
 (∃ kvs k, Rd H a (.dK kvs) ∧ y = kV k ∧ r = Cr kvs k) ∨ ∃ kvs k b, Rd H a (.dT kvs) ∧ y = .ref b ∧ H b = some (.tup (k.map kV)) ∧ r = Cr kvs k
theorem Jj.k {H : Hp} {a : Addr} {kvs : List (Key × V)} {k : Key} (e : H a = some (.dK kvs)) : Jj H a (kV k) (Cr kvs k) := .inl ⟨kvs, k, .inl e, rfl, rfl⟩
section
variable {X : Cx} {pins : List (Addr × Obj)} {σ : St} {H : Hp} {s : Shared} {a : Addr} {y v : V} {u r : Value} {o : Option V} {A : Around} {E : Value → Shared → Prop}
theorem Inv.big (I : Inv X pins σ H s) : sysModules < s.heap.objs.size := by
 have h : mainGlobals < s.heap.objs.size := (I.mod.glob.keeps I.bk).lt
 exact Nat.lt_trans (by decide) h
theorem Qc (I : Inv X pins σ H s) (mu : Mut (H a)) (hs : Heap.SameBut a s.heap h') (he : ∃ q, h'.get? a = some q) (new : bj X.prog X.w (upd H a ob) h' a ob) :
 Inv X pins σ (upd H a ob) { s with heap := h', toks := t' } :=
 I.write (x := a) (e := a) mu (.inl rfl) (fun b q hb z => (hs.2 b hb).trans z) he new
theorem qd (z : kvs.length ≤ sizeLine) (hd : (a == sysModules) = false) (rel : KV kvs vs) (dd : h'.DictOf (Cn P w) a vs) :
 bj P w H' h' a (.dK kvs) := ⟨z, hd, vs, rel, dd⟩
end
section
variable {X : Cx} {pins : List (Addr × Obj)} {σ : St} {H : Hp} {s : Shared} {a : Addr} {kvs : List (Key × V)} {k : Key} {u : Value} {A : Around} {E : Value → Shared → Prop}
end
section
variable {X : Cx} {o i e value : Expr} {pos pos' tpos : Pos} {td ty tv : TE}
end
theorem yi (h : Heap) (hb : sysModules < h.objs.size) : bj P w H (h.push { cls := .type "dict", data := .dict #[] }) h.objs.size (.dK []) :=
 ⟨Nat.zero_le _, beq_eq_false_iff_ne.mpr (Ne.symm (Nat.ne_of_lt hb)), [], .nil, Heap.DictOf.new h⟩
section
variable {X : Cx} {pos : Pos}
end
def Im (kvs more : List (Key × V)) : List (Key × V) := more.foldl (fun acc kv => putK acc kv.1 kv.2) kvs
theorem KV.merge : ∀ {more : List (Key × V)} {rs : List (Key × Value)} {kvs : List (Key × V)} {vs : List (Key × Value)}, KV more rs → KV kvs vs → KV (Im kvs more) (merged vs rs) := by
 intro more rs kvs vs r
 unfold KV at r
 induction r generalizing kvs vs with
 | nil => intro q; exact q
 | @cons p q ps qs h t ih =>
  intro r0
  have e : KV (putK kvs p.1 p.2) (stored vs q.1 q.2) := by
   have := r0.put p.1 h.2
   rw [← h.1]; exact this
  exact ih e
theorem Qd : ∀ (more kvs : List (Key × V)), (Im kvs more).length ≤ kvs.length + more.length
 | [], kvs => by show kvs.length ≤ kvs.length + 0; omega
 | p :: r, kvs => by
  have h1 := Qd r (putK kvs p.1 p.2)
  have h2 := qa kvs p.1 p.2
  show (Im (putK kvs p.1 p.2) r).length ≤ _
  rw [List.length_cons]; omega
structure M1 (X : Cx) (o : Expr) (m : Str) (apos : Pos) (e : Expr) (cpos : Pos) : Prop where
 base : attributeBase o m X.env (eval o X.env) = eval o X.env
 few : ((backTo cpos (starEach [e] X.env)).all (fun x => !x.1) && (backToKw cpos (keywordEach [] X.env)).all (fun x => x.1.isSome)
  && decide (([e] : List Expr).length + ([] : List Keyword).length + (if ([] : List Keyword).isEmpty then 0 else 1) < 30)) = true
 line : (apos.endLine == cpos.line) = true
 trees : backTo cpos (starEach [e] X.env) = [(false, eval e X.env)]
def IsD (H : Hp) (a : Addr) : Prop := (∃ kvs, Rd H a (.dK kvs)) ∨ ∃ kvs, Rd H a (.dT kvs)
theorem Yi {σ : St} (I : Inv X pins σ H s) (d : IsD H a) :
 s.TypeIs (.ref a) "dict" ∧ (∀ b, Value.ref a = .ref b → ∃ ob, s.heap.get? b = some ob ∧ ob.dict = none) ∧ (a == sysModules) = false := by
 rcases d with ⟨kvs, e⟩ | ⟨kvs, e⟩
 · obtain ⟨_, hd, vs, _, dd⟩ := me I.hok e
   refine ⟨dd.typeIs, fun b q => ?_, hd⟩
   cases q
   obtain ⟨ob, _, _, h1, h2, _⟩ := dd
   exact ⟨ob, h1, h2.2.1⟩
 · obtain ⟨_, hd, xs, _, dd⟩ := qc I.hok e
   refine ⟨dd.typeIs, fun b q => ?_, hd⟩
   cases q
   obtain ⟨ob, _, _, h1, h2, _⟩ := dd
   exact ⟨ob, h1, h2.2.1⟩
section
variable {X : Cx} {pins : List (Addr × Obj)} {σ : St} {H : Hp} {s : Shared} {a : Addr} {y d : V} {u r : Value} {o : Option V} {A : Around} {E : Value → Shared → Prop}
theorem yj (hu : A.units + 1 < cLine) (I : Inv X pins σ H s) (g : Jj H a y o) (ry : RelV y u) (h : ∀ w' s', Inv X pins σ H s' → RelV (o.getD .non) w' → Q w' s') :
 wpAny (model X.prog X.w) A (call (.builtin "dict.get") [.ref a, u]) Q E s := by
 rcases g with ⟨kvs, k, e, ey, l⟩ | ⟨kvs, k, b, e, ey, eb, l⟩
 · subst ey
   obtain ⟨z, hd, vs, rel, dd⟩ := me I.hok e
   refine call_meetsIn PySem.F.slot_dict_get dd.typeIs PySem.F.entry_dict_get (PySem.F.args_dict_get_2 _ _) (meets_dict_get (Cn X.prog X.w) a (ke ry) hd) ⟨_, dd.mapOf, h _ _ (I.tok _) ?_⟩
   rw [l]
   exact (rel.val k).getD rfl
 · subst ey
   cases (show u = Value.ref b from ry)
   obtain ⟨z, hd, xs, rel, dd⟩ := qc I.hok e
   refine call_meetsIn PySem.F.slot_dict_get dd.typeIs PySem.F.entry_dict_get (PySem.F.args_dict_get_2 _ _) (meetsH_dict_get (tupleKind (Cn X.prog X.w)) a b hd) ⟨tupleKind_room_in1 hu, k, xs, Qb I.hok eb, dd, h _ _ (I.tok _) ?_⟩
   rw [l]
   exact (rel.val k).getD rfl
end
def Yj (td ty : TE) : TE := fun σ H Q => td σ H fun x H1 => ∃ a, x = .ref a ∧ IsD H1 a ∧ ty σ H1 fun y H2 => ∃ o, Jj H2 a y o ∧ Q (o.getD .non) H2
section
variable {X : Cx} {o e f : Expr} {apos cpos : Pos} {td ty tx : TE}
theorem yk (hu : X.A.units + 1 < cLine) (ho : PE X o td) (he : PE X e ty) (m : M1 X o "get" apos e cpos) : PE X (.Call (.Attribute o "get" apos) [e] [] cpos) (Yj td ty) := by
 intro pins s σ H Q I h
 refine wpAny_Call_method m.base m.few m.line PySem.F.plainAttrs_dict PySem.F.slot_dict_get PySem.F.type_dict_get (thn (ho pins s σ H _ I h) fun u s1 ⟨x, H1, I1, rx, a, ex, d, q1⟩ => ?_)
 subst ex
 obtain rfl : u = Value.ref a := rx
 obtain ⟨t1, t2, _⟩ := Yi I1 d
 refine ⟨t1, t2, ?_⟩
 rw [m.trees]
 refine Calls.callWith_builtin rfl (Calls.evalArgs_plain (Calls.spliced_cons (thn (he pins s1 σ H1 _ I1 q1) fun iv s2 ⟨y, H2, I2, ry, ov, g, q2⟩ => Calls.spliced_nil ?_)))
 exact yj hu I2 g ry fun w' s3 I3 rw' => ⟨_, H2, I3, rw', q2⟩
end
section
variable {X : Cx} {pins : List (Addr × Obj)} {σ : St} {H : Hp} {s : Shared} {a : Addr} {kvs : List (Key × V)} {A : Around} {E : Value → Shared → Prop}
end
section
variable {X : Cx} {pins : List (Addr × Obj)} {σ : St} {H : Hp} {s : Shared} {a : Addr} {y : V} {u : Value} {A : Around} {E : Value → Shared → Prop}
end
end L2
namespace Att
open PySem PySem.W PySem.Calls PyProof.Rows
theorem Yk : ∀ (ns : List Int) (vs : List Value), WellAll P h vs (ns.map WData.int) → IntsAre vs ns := by
 intro ns
 induction ns with
 | nil =>
  intro vs w
  rw [List.map_nil] at w
  cases w
  exact .nil
 | cons n ns ih =>
  intro vs w
  rw [List.map_cons] at w
  cases w with
  | cons a b =>
   cases a
   exact .cons _ _ (ih _ b)
theorem yl {l : OpenLaw} {n : Nat} (hn : l.most = some n) {P : Params} {h : Heap} {args : List WData} {vals : List Value}
 (hpre : l.row.toRowW.claim.pre args = true) (hwl : WellAll P h vals args) :
 ∃ a vs ns, vals = [Value.ref a] ∧ args = [WData.list (ns.map WData.int)] ∧ h.get? a = some { cls := .type "list", data := .seq vs.toArray } ∧ IntsAre vs ns ∧ ns.length ≤ n := by
 have hsh : WShape.hasAll [] args [.list .int] = true := (pre_splitW hpre).1
 have hc : l.pre.holds [] { args := args } = true := (pre_splitW hpre).2
 obtain ⟨d, r, rfl, h1, h2⟩ := hasAllW_cons hsh
 obtain rfl := hasAllW_nil h2
 obtain ⟨xs, rfl, h3⟩ := hasW_list h1
 obtain ⟨ns, rfl⟩ := items_int h3
 have hlen : ns.length ≤ n := by
  unfold OpenLaw.pre at hc
  have h4 : (WTm.not (.lt (.lit (.int (n : Int))) (.len (.arg 0)))).holds [] { args := [.list (ns.map .int)] } = true := by
   have h4 := (holds_andW hc).1
   rw [hn] at h4
   exact h4
  have h5 := condW_of h4 (w_not (w_lt w_lit (w_len_list (w_arg rfl))))
  rw [List.length_map] at h5
  refine Nat.le_of_not_lt fun q => ?_
  have q' : (n : Int) < ((ns.length : Nat) : Int) := by omega
  first
   | (rw [decide_eq_true q'] at h5; exact absurd h5 (by decide))
   | (simp at h5; omega)
 cases hwl with
 | cons w1 w2 =>
  cases w2
  cases w1 with
  | list ho hall => exact ⟨_, _, ns, rfl, rfl, ho, Yk ns _ hall, hlen⟩
theorem Yl (l : OpenLaw) (args : List WData) : l.row.toRowW.claim.post args (.bool true) args = true :=
 postW_of (r := l.row.toRowW) (X := (true == true))
  (show WShape.has [] (.bool true) .bool = true by first | rfl | decide | simp [WShape.has, WShape.arms, WShape.armsAll])
  (show (WTm.eq .res (.lit (.bool true))).value [] { args := args, res := some (.bool true), after := args } = some (.bool (true == true)) from w_eq_bool (w_res rfl) w_lit) rfl
theorem ym {l : OpenLaw} {n : Nat} {q : Program} {loose : List Str} {XP : (Str → Option Value) → Heap → Prop} {YP : World → Heap → Prop} {d : DefRec}
 (hn : l.most = some n) (hdf : d.params.defaults = [])
 (call : ∀ (w : World) (s₀ s₁ : Shared) (mg mb : Str → Option Value) (fa : Addr) (o : Obj) (pm cd doc : Value) (a : Addr) (vs : List Value) (ns : List Int),
  Ground q loose [] XP w s₀ mg mb s₁.heap → YP w s₁.heap →
  s₁.heap.get? fa = some o → o.data = .func (docDef d.name d.params d.body d.scope pm cd doc) → s₁.heap.CodeRec cd d.name → mg d.name = some (.ref fa) →
  s₁.heap.get? a = some { cls := .type "list", data := .seq vs.toArray } → IntsAre vs ns → ns.length ≤ n → s₁.gens = #[] →
  codeAny (model l.prog w) callerA (.call (.ref fa) ⟨[.ref a], []⟩) (fun r s' => r = .ok (.ret (.bool true)) ∧ OldK s₁.heap s'.heap ∧ s'.os = s₁.os ∧ AllBare s'.gens) s₁) :
 WalkO q loose XP YP l.row.toRowW d [] (fun f vs => PySem.call f vs) := by
 intro w s₀ s₁ mg mb G Y fa o pm cd doc dV kV ho hd hcd hD hmg hg args vals as hpre hlay hrd hwl hlo
 obtain rfl : dV = .none := Dflts.none hD hdf
 obtain rfl : kV = .none := Dflts.noKw hD
 obtain ⟨a, vs, ns, rfl, rfl, hobj, hints, hlen⟩ := yl hn hpre hwl
 refine enter_call (codeAny_mono (call w s₀ s₁ mg mb fa o pm cd doc a vs ns G Y ho (fd_plain hd) hcd hmg hobj hints hlen hg) fun r s' hq => ?_)
 obtain ⟨rfl, h2, h3, h4⟩ := hq
 exact ⟨.inl ⟨.bool true, .bool true, [], rfl, fun _ => rfl, .bool true, Yl l _, fun _ => ⟨List.Pairwise.nil, fun _ hm => (nomatch hm)⟩⟩, h2, h3, h4⟩
section
variable {prog : Program} {w : World} {A : Around} {E : Value → Shared → Prop} {s : Shared} {K : Frag}
end
end Att
namespace L2
open PySem PySem.Spec PyProof.Rows
theorem qe : ∀ {vs : List Value} {ns : List Int}, IntsAre vs ns → Vals (ns.map V.int) vs
 | _, _, .nil => .nil
 | _, _, .cons n t h => .cons ⟨t, rfl⟩ (qe h)
def Ke (H : Hp) : Prop := ∀ b, H b = none ∨ ∃ o xs, H b = some (.frz o (.lst xs))
theorem Ym {P : Program} {w : World} {K : W.Frag} {mg mb : Str → Option Value} {CX : CXT} {k : Nat} {fa a : Addr} {fd : FuncData} {x : Str} {sp : Sp} {s₁ : Shared} {vs : List Value} {ns : List Int}
 (KX : K.In s₁.heap) (hns : s₁.heap.Ns mainGlobals mg) (hb : s₁.heap.Ns builtinsNs mb) (hbb : ∀ x : Str, x ≠ "__name__" → mb x = bootBuiltins x) (hlim : s₁.heap.NoLimit) (hg : s₁.gens = #[])
 (ha : s₁.heap.get? a = some { cls := .type "list", data := .seq vs.toArray }) (hi : IntsAre vs ns) (hl : ns.length ≤ sizeLine) (hr : Room k callerA)
 (F : ∀ base : Heap, K.In base → base.Ns mainGlobals mg → FnOk P w K mg base CX k fa fd [x] sp) (hbind : ∀ (s : Shared) (u : Value), BindsTo s fd ⟨[u], []⟩ [(x, u)])
 (hsp : ∀ H : Hp, Ke H → SqL K H a (ns.map V.int) → sp [.ref a] H (fun v _ => v = .bl true) fun _ _ _ => False)
 (hCX : ∀ H e s', CX [] H s₁ (fun _ _ _ => False) e s' → False) :
 codeAny (model P w) callerA (.call (.ref fa) ⟨[.ref a], []⟩) (fun r s' => r = .ok (.ret (.bool true)) ∧ OldK s₁.heap s'.heap ∧ s'.os = s₁.os ∧ AllBare s'.gens) s₁ := by
 have rv := qe hi
 have lenV := hi.length
 have core : ∀ H : Hp, Ke H → SqL K H a (ns.map V.int) → HOk P w H s₁.heap → (∀ b, H b ≠ none → b = a) → (H a ≠ none → K.lookup a = none) →
  codeAny (model P w) callerA (.call (.ref fa) ⟨[.ref a], []⟩) (fun r s' => r = .ok (.ret (.bool true)) ∧ OldK s₁.heap s'.heap ∧ s'.os = s₁.os ∧ AllBare s'.gens) s₁ := by
  intro H hO hS hok hA hK
  have base_of : ∀ {b : Addr} {o : Obj}, s₁.heap.get? b = some o → H b = none → (Fg s₁.heap H).get? b = some o := fun e n => Vi e n
  have noA : ∀ {b : Addr} {o : Obj} {es : Array DictEntry} {ep : Nat}, s₁.heap.get? b = some o → o.data = .dict es ep → H b = none := fun {b o es ep} e d => by
   cases q : H b with
   | none => rfl
   | some u =>
    have e' : b = a := hA b (by rw [q]; simp)
    subst e'
    rw [ha] at e; cases e
    have d' : Data.seq vs.toArray _ = Data.dict es ep := d
    cases d'
  have nsK : ∀ {b : Addr} {m : Str → Option Value}, s₁.heap.Ns b m → (Fg s₁.heap H).Ns b m := fun {b m} ⟨o, es, ep, e, d, r⟩ => ⟨o, es, ep, base_of e (noA e d), d, r⟩
  have hKb : K.In (Fg s₁.heap H) := fun b o e => base_of (KX b o e) (by
   cases q : H b with
   | none => rfl
   | some u =>
    have e' : b = a := hA b (by rw [q]; simp)
    subst e'
    rw [hK (by rw [q]; simp)] at e; cases e)
  have hM : Mod K mg (Fg s₁.heap H) := ⟨hKb, nsK hns, ⟨mb, nsK hb, hbb⟩, let ⟨mc, h1, h2⟩ := hlim; ⟨mc, nsK h1, h2⟩⟩
  have e0 : Env0 P w K mg (Fg s₁.heap H) callerA [] s₁ H := ⟨rfl, hM, fun b o e => vj e, Nat.le_of_eq (vi _ _), trivial, fun b hb => absurd (show b ∈ ([] : List Addr) from hb) (by simp), hok, .of_eq hg⟩
  refine codeAny_mono ((F _ hKb (nsK hns)).run callerA [] s₁ H ⟨[.ref a], []⟩ [.ref a] [.ref a] _ _ hr e0 (hbind s₁ (.ref a)) (.cons rfl .nil) (hsp H hO hS)) fun r s' h => ?_
  cases r with
  | error e => exact (hCX H e s' h).elim
  | ok fl =>
   cases fl with
   | next => exact False.elim h
   | brk => exact False.elim h
   | cont => exact False.elim h
   | ret u =>
    obtain ⟨v, H', os, bare, un, hok', r', q⟩ := h
    have q' : v = .bl true := q
    subst q'
    obtain rfl : u = Value.bool true := r'
    refine ⟨rfl, OldK.of_keep fun b o e => ?_, os, bare⟩
    cases q : H b with
    | none => exact un.keep b o e q (by intro z; exact absurd (show b ∈ ([] : List Addr) from z) (by simp)) (by simp)
    | some u =>
     rcases hO b with z | ⟨ob, xs, z⟩
     · rw [q] at z; cases z
     · have z2 := un.frzs b ob _ z
       obtain ⟨e1, _⟩ := hok b _ z
       obtain ⟨e2, _⟩ := hok' b _ z2
       rw [e] at e1; cases e1
       exact e2
 cases hk : K.lookup a with
 | some o =>
  have e := KX a o hk
  rw [ha] at e
  cases e
  refine core (fun _ => none) (fun _ => .inl rfl) (.inr ⟨_, vs.toArray, _, hk, rfl, rfl, rfl, by rw [List.size_toArray, lenV]; exact hl, by simpa using rv⟩) (fun b u z => by have z' : (none : Option HO) = some u := z; cases z') (fun b z => absurd rfl z) fun z => absurd rfl z
 | none =>
  refine core (fun b => if b = a then some (.frz { cls := .type "list", data := .seq vs.toArray } (.lst (ns.map V.int))) else none) (fun b => ?_) (.inl (.inr ⟨{ cls := .type "list", data := .seq vs.toArray }, if_pos rfl⟩)) (fun b u z => ?_) (fun b z => ?_) fun _ => hk
  · by_cases hb : b = a
    · exact .inr ⟨_, _, if_pos hb⟩
    · exact .inl (if_neg hb)
  · by_cases hb : b = a
    · have z' := (if_pos hb).symm.trans z
      cases z'
      subst hb
      exact ⟨ha, by rw [List.length_map]; exact hl, vs, _, rv, ha⟩
    · have z' := (if_neg hb).symm.trans z
      cases z'
  · by_cases hb : b = a
    · exact hb
    · exact absurd (if_neg hb) z
theorem yn {l : W.OpenLaw} {n k : Nat} {q : Program} {loose : List Str} {XP : (Str → Option Value) → Heap → Prop} {YP : World → Heap → Prop} {d : DefRec} {K : Params → W.Frag} {CX : World → CXT} {sp : World → Sp} {x : Str}
 (hn : l.most = some n) (hn2 : n ≤ sizeLine) (hdf : d.params.defaults = []) (hr : Room k callerA)
 (hY : ∀ (w : World) (h : Heap), YP w h → (K w.params).In h)
 (F : ∀ (w : World) (mg : Str → Option Value) (fa : Addr) (h : Heap), (K w.params).In h → h.Ns mainGlobals mg → mg d.name = some (.ref fa) →
  ∃ fd : FuncData, (∀ (s : Shared) (u : Value), BindsTo s fd ⟨[u], []⟩ [(x, u)]) ∧
   ∀ base : Heap, (K w.params).In base → base.Ns mainGlobals mg → FnOk l.prog w (K w.params) mg base (CX w) k fa fd [x] (sp w))
 (hsp : ∀ (w : World) (H : Hp) (a : Addr) (ns : List Int), ns.length ≤ n → Ke H → SqL (K w.params) H a (ns.map V.int) → sp w [.ref a] H (fun v _ => v = .bl true) fun _ _ _ => False)
 (hCX : ∀ (w : World) (H : Hp) (s : Shared) (e : Value) (s' : Shared), CX w [] H s (fun _ _ _ => False) e s' → False) :
 W.WalkO q loose XP YP l.row.toRowW d [] (fun f vs => PySem.call f vs) := by
 refine Att.ym hn hdf fun w s₀ s₁ mg mb fa o pm cd doc a vs ns G Y ho hd hcd hmg hobj hints hlen hg => ?_
 have KX := hY w _ Y
 obtain ⟨fd, hb, hF⟩ := F w mg fa _ KX G.T.g hmg
 exact Ym KX G.T.g G.T.b G.T.builtins G.T.nolimit hg hobj hints (Nat.le_trans hlen hn2) hr hF hb (fun H hO hS => hsp w H a ns hlen hO hS) fun H e s' => hCX w H s₁ e s'
def jk (s : Stmt) : Arguments := match s with
 | .FunctionDef _ a _ _ _ _ _ _ _ _ => a
 | _ => { posonlyargs := [], args := [], vararg := none, kwonlyargs := [], kw_defaults := [], kwarg := none, defaults := [] }
def Gz (s : Stmt) : List Stmt := match s with
 | .FunctionDef _ _ b _ _ _ _ _ _ _ => b
 | _ => []
def Aq (s : Stmt) : Scope := match s with
 | .FunctionDef _ _ _ _ _ _ sc _ _ _ => sc
 | _ => { kind := .function, names := [], isGenerator := false, isCoroutine := false }
section
variable {P : Program} {w : World} {K : W.Frag} {mg : Str → Option Value} {base : Heap}
end
section
variable {X : Cx}
theorem pv (i : Nat) {pos : Pos} (hN : X.N[i]? = some x := by rfl) (hv : Vis X.env.scope x := by first | exact Or.inl rfl | exact Or.inr (Or.inl rfl) | exact Or.inr (Or.inr rfl)) (hd : (x == ("__debug__" : Str)) = false := by decide)
 (hcd : (x == ("__classdict__" : Str)) = false := by decide) : PE X (.Name x pos) (Lw i) := vk hN hv hd hcd
end
theorem Ha {A B : Prop} (h : B) : if false = true then A else B := by
 rw [if_neg Bool.false_ne_true]
 exact h
theorem Hb {A B : Prop} (h : A) : if true = true then A else B := by
 rw [if_pos rfl]
 exact h
def Bp (H H' : Hp) : Prop := ∀ b o, H b = some o → H' b = some o
section
variable {κ : Type} [DecidableEq κ]
end
end L2
namespace DD
open PySem PySem.Builtin L2
open PyProof.Rows (IsTup.new)
theorem Yn (l : Addr) (items : Array Value) (n : Nat) (dd : Option Addr) (sl : Array (Option Value)) (x : Int) (u : Tok) (h1 : (decide (x < -2 ^ 63) || decide (x ≥ 2 ^ 63)) = false) (h2 : (items.isEmpty || x == 1) = true) :
 Meets (Builtin.«tuple.__mul__» ⟨[.ref l, .int x u], []⟩) (fun _ R s => s.heap.get? l = some { cls := .type "tuple", dict := dd, data := .seq items n, slots := sl } ∧ R (.ok (.ret (Value.ref l))) s) :=
 .of_wp fun pr wd Ar Rs s0 hh => by
  obtain ⟨hp0, gn, dr, tk0, os0⟩ := s0
  obtain ⟨hl, hh⟩ := hh
  wp_walk
  refine wpAny_ite_false (by rw [h1]; rfl) ?_
  wp_walk
  exact ⟨_, rfl, hh⟩
theorem yo (l : Addr) (items : Array Value) (n : Nat) (dd : Option Addr) (sl : Array (Option Value)) (x : Int) (u : Tok) (h1 : (decide (x < -2 ^ 63) || decide (x ≥ 2 ^ 63)) = false) (h2 : (items.isEmpty || x == 1) = false) (h3 : (decide (x ≤ 0) || items.isEmpty) = true) :
 Meets (Builtin.«tuple.__mul__» ⟨[.ref l, .int x u], []⟩) (fun _ R s => s.heap.get? l = some { cls := .type "tuple", dict := dd, data := .seq items n, slots := sl } ∧ R (.ok (.ret (Value.ref s.heap.objs.size))) { s with heap := s.heap.push { cls := .type "tuple", data := .seq #[] } }) :=
 .of_wp fun pr wd Ar Rs s0 hh => by
  obtain ⟨hp0, gn, dr, tk0, os0⟩ := s0
  obtain ⟨hl, hh⟩ := hh
  wp_walk
  refine wpAny_ite_false (by rw [h1]; rfl) ?_
  wp_walk
  exact ⟨_, rfl, hh⟩
theorem Yo (l : Addr) (items : Array Value) (n : Nat) (dd : Option Addr) (sl : Array (Option Value)) (x : Int) (u : Tok) (h1 : (decide (x < -2 ^ 63) || decide (x ≥ 2 ^ 63)) = false) (h2 : (items.isEmpty || x == 1) = false) (h3 : (decide (x ≤ 0) || items.isEmpty) = false) (h4 : ¬ ((items.size : Int) * x > (2 ^ 63 - 1) / 8)) (h5 : Tuple.tupleTooMany ((items.size : Int) * x) = false) (h6 : (List.foldl (fun x1 x2 => x1 ++ x2) #[] (List.replicate x.toNat items)).size ≤ sizeLine) :
 Meets (Builtin.«tuple.__mul__» ⟨[.ref l, .int x u], []⟩) (fun _ R s => s.heap.get? l = some { cls := .type "tuple", dict := dd, data := .seq items n, slots := sl } ∧ R (.ok (.ret (Value.ref s.heap.objs.size))) { s with heap := s.heap.push { cls := .type "tuple", data := .seq (List.foldl (fun x1 x2 => x1 ++ x2) #[] (List.replicate x.toNat items)) } }) :=
 .of_wp fun pr wd Ar Rs s0 hh => by
  obtain ⟨hp0, gn, dr, tk0, os0⟩ := s0
  obtain ⟨hl, hh⟩ := hh
  wp_walk
  refine wpAny_ite_false (by rw [h1]; rfl) ?_
  wp_walk
  refine wpAny_ite_false (decide_eq_false h4) ?_
  wp_walk
  exact ⟨_, rfl, hh⟩
theorem Yp (a : Int) (t : Tok) (l : Addr) (items : Array Value) (n : Nat) (dd : Option Addr) (sl : Array (Option Value)) :
 Meets (Builtin.«int.__rmul__» ⟨[.int a t, .ref l], []⟩) (fun _ R s => s.heap.get? l = some { cls := .type "tuple", dict := dd, data := .seq items n, slots := sl } ∧ R (.ok (.ret Value.notImplemented)) s) :=
 .of_wp fun pr wd Ar Rs s0 hh => by
  obtain ⟨hp0, gn, dr, tk0, os0⟩ := s0
  obtain ⟨hl, hh⟩ := hh
  wp_walk
  exact ⟨_, rfl, hh⟩
theorem yq : fillsNumberSlot (.type "tuple") "mul" = pure false :=
 fillsNumberSlot_seq (id := "tuple.__mul__") (r := some (.builtin "tuple.__rmul__")) PySem.F.slot_tuple_mul.lookup (by decide +kernel) PySem.F.slot_tuple_rmul.lookup (by decide +kernel)
theorem Yq : seqRepeat? (.type "tuple") = pure (some (.builtin "tuple.__mul__")) := by
 unfold seqRepeat?
 rw [seqSlot_of (T := "tuple") (name := "__mul__") (id := "tuple.__mul__") PySem.F.slot_tuple_mul.lookup (by decide +kernel), seqSlot_of (T := "tuple") (name := "__rmul__") (id := "tuple.__rmul__") PySem.F.slot_tuple_rmul.lookup (by decide +kernel)]
 rfl
theorem mf {α : Type} (k : Nat) (xs : List α) : (List.replicate k xs).flatten.length = k * xs.length := by simp
def yr (K : W.Frag) : R2 := fun x y H Q => ∃ a k xs, x = .ref a ∧ y = .int k ∧ SqT K H a xs ∧ -(2 ^ 63) ≤ k ∧ k < 2 ^ 63 ∧ xs.length * k.toNat ≤ sizeLine ∧
 (((List.replicate k.toNat xs).flatten = xs → Q (.ref a) H) ∧ ∀ p, H p = none → Q (.ref p) (upd H p (.tup (List.replicate k.toNat xs).flatten)))
theorem Yr : OpR X (binaryOp .Mult) (yr X.K) := by
 intro pins s σ H x y v u Q I rx ry h
 obtain ⟨a, k, xs, rfl, rfl, ha, h1, h2, hz, q1, q2⟩ := h
 cases rx
 obtain ⟨t, rfl⟩ := ry
 obtain ⟨its, r, p, hsz⟩ := I.tuple ha
 obtain ⟨⟨cls, dd, data, sl⟩, ho, hc, n, hd⟩ := id p
 simp only at hc hd
 subst hc hd
 have e1 : (decide (k < -2 ^ 63) || decide (k ≥ 2 ^ 63)) = false := by
  rw [decide_eq_false (by omega), decide_eq_false (by omega)]; rfl
 have hl := r.length
 refine wpAny_binaryOp_repeat_ref (T := "tuple") (U := "int") (by decide) ⟨_, ho, rfl⟩ (fun s' => typeIs_int s' k t) yq PySem.F.fills_int_mul PySem.F.slot_int_rmul Yq PySem.F.slot_int_index.lookup
  (call_meets PySem.F.slot_int_rmul (typeIs_int s k t) PySem.F.entry_int_rmul (PySem.F.args_int_rmul_2 _ _) (Yp k t a its.toArray n dd sl)
   ⟨ho, rfl, ⟨_, ho, rfl⟩, ?_⟩)
 cases e2 : (its.toArray.isEmpty || k == 1) with
 | true =>
  refine call_meets PySem.F.slot_tuple_mul ⟨_, ho, rfl⟩ PySem.F.entry_tuple_mul (PySem.F.args_tuple_mul_2 _ _) (Yn a its.toArray n dd sl k t e1 e2) ⟨ho, ?_⟩
  refine ⟨.ref a, H, I, rfl, q1 ?_⟩
  simp only [Bool.or_eq_true, beq_iff_eq] at e2
  rcases e2 with e2 | rfl
  · have : its = [] := by simpa using e2
    subst this
    have : xs = [] := by simpa using hl
    subst this
    simp
  · simp
 | false =>
  cases e3 : (decide (k ≤ 0) || its.toArray.isEmpty) with
  | true =>
   refine call_meets PySem.F.slot_tuple_mul ⟨_, ho, rfl⟩ PySem.F.entry_tuple_mul (PySem.F.args_tuple_mul_2 _ _) (yo a its.toArray n dd sl k t e1 e2 e3) ⟨ho, ?_⟩
   have hk : k.toNat = 0 := by
    simp only [Bool.or_eq_true, decide_eq_true_eq] at e3
    rcases e3 with e3 | e3
    · omega
    · simp [e3] at e2
   rw [hk] at q2
   refine ⟨.ref s.heap.objs.size, _, I.laid (t' := s.toks) (o := .tup []) (fun b ob q => Heap.get?_push_of_some _ q) (Nat.le_refl _) ?_, rfl, q2 _ (I.hok.fresh (Nat.le_refl _))⟩
   exact ⟨by simp, [], .nil, IsTup.new _ _⟩
  | false =>
   simp only [Bool.or_eq_false_iff, decide_eq_false_iff_not] at e3
   have hk : (k.toNat : Int) = k := Int.toNat_of_nonneg (by omega)
   have hz2 : its.length * k.toNat ≤ sizeLine := by rw [← hl]; exact hz
   have hz3 : (its.toArray.size : Int) * k ≤ 16777216 := by
    have : ((its.length * k.toNat : Nat) : Int) ≤ ((sizeLine : Nat) : Int) := Int.ofNat_le.mpr hz2
    rw [Int.natCast_mul, hk] at this
    rw [List.size_toArray]
    exact Int.le_trans this (by decide)
   have hnew : List.foldl (fun x1 x2 => x1 ++ x2) #[] (List.replicate k.toNat its.toArray) = (List.replicate k.toNat its).flatten.toArray := by
    have := foldl_rep its k.toNat []
    rw [List.nil_append] at this
    exact this
   refine call_meets PySem.F.slot_tuple_mul ⟨_, ho, rfl⟩ PySem.F.entry_tuple_mul (PySem.F.args_tuple_mul_2 _ _) (Yo a its.toArray n dd sl k t e1 e2 (by simp [e3]) (by omega) ?_ ?_) ⟨ho, ?_⟩
   · unfold Tuple.tupleTooMany
     refine decide_eq_false ?_
     have : ((its.length * k.toNat : Nat) : Int) ≤ ((sizeLine : Nat) : Int) := Int.ofNat_le.mpr hz2
     rw [Int.natCast_mul, hk] at this
     rw [List.size_toArray]
     omega
   · rw [hnew, List.size_toArray, mf, Nat.mul_comm]; exact hz2
   · rw [hnew]
     refine ⟨.ref s.heap.objs.size, _, I.laid (t' := s.toks) (o := .tup (List.replicate k.toNat xs).flatten) (fun b ob q => Heap.get?_push_of_some _ q) (Nat.le_refl _) ?_, rfl, q2 _ (I.hok.fresh (Nat.le_refl _))⟩
     exact ⟨by rw [mf, Nat.mul_comm]; exact hz, _, r.rep k.toNat, IsTup.new _ _⟩
theorem Qe {α : Type} (its : List α) : ∀ (k : Nat) (acc : List α), List.foldl (fun x1 x2 => x1 ++ x2) acc.toArray (List.replicate k its.toArray) = (acc ++ (List.replicate k its).flatten).toArray
 | 0, acc => by simp
 | k + 1, acc => by
  have e : acc.toArray ++ its.toArray = (acc ++ its).toArray := by simp
  have e2 : (acc ++ its) ++ (List.replicate k its).flatten = acc ++ (List.replicate (k + 1) its).flatten := by
   rw [List.replicate_succ, List.flatten_cons, List.append_assoc]
  rw [← e2, ← Qe its k (acc ++ its), ← e, List.replicate_succ, List.foldl_cons]
def Hc (z : Str) (k : Nat) : Str := ⟨(List.replicate k z.cps.toList).flatten.toArray⟩
theorem Ys : OpR X (binaryOp .Mult) (fun x y H Q => ∃ z k, x = .str z ∧ y = .int k ∧ 1 < k ∧ k < 2 ^ 63 ∧ 0 < z.length ∧ z.length * k.toNat ≤ sizeLine ∧ Q (.str (Hc z k.toNat)) H) := by
 intro pins s σ H x y v u Q I rx ry h
 obtain ⟨z, k, rfl, rfl, h1, h2, h3, h4, q⟩ := h
 obtain ⟨t, rfl⟩ := rx
 obtain ⟨t', rfl⟩ := ry
 have hz : (z.length == 0) = false := by simp; omega
 have hk : (k.toNat : Int) = k := Int.toNat_of_nonneg (by omega)
 have h5 : (z.length : Int) * k ≤ 16777216 := by
  have : ((z.length * k.toNat : Nat) : Int) ≤ ((sizeLine : Nat) : Int) := Int.ofNat_le.mpr h4
  rw [Int.natCast_mul, hk] at this
  exact Int.le_trans this (by decide)
 have e : (⟨(List.replicate k.toNat z.cps).foldl (· ++ ·) #[]⟩ : Str) = Hc z k.toNat := by
  have := Qe z.cps.toList k.toNat []
  rw [List.nil_append, Array.toArray_toList] at this
  unfold Hc
  rw [← this]
 refine PySem.P.mul_str (by rw [decide_eq_false (by omega), decide_eq_false (by omega)]; rfl) (fun _ _ hb => ?_) (fun _ _ => decide_eq_false (by omega)) ?_
 · have := (Int.le_ediv_iff_mul_le (a := (z.length : Int)) (b := (2 ^ 63 - 1)) (c := k) (by omega)).mpr (by omega)
   omega
 · rw [if_neg (by omega), if_neg (by simp [hz]; omega), e]
   refine ⟨?_, .str (Hc z k.toNat), H, I.tok _, ⟨_, rfl⟩, q⟩
   show (Hc z k.toNat).cps.size ≤ sizeLine
   unfold Hc
   rw [List.size_toArray, mf, Nat.mul_comm]
   exact h4
end DD
set_option genSizeOf false
namespace DD
open PySem
theorem odt {p : Prop} [Decidable p] (h : decide p = true) : p := of_decide_eq_true h
inductive D where
 | non | bl (b : Bool) | int (i : Int) | str (x : Str) | tup (ds : List D) | loc (n : Nat)
 deriving Inhabited
mutual
noncomputable def D.beq : D → D → Bool
 | .non, .non => true
 | .bl a, .bl b => a == b
 | .int a, .int b => a == b
 | .str a, .str b => decide (a = b)
 | .tup a, .tup b => D.beqL a b
 | .loc a, .loc b => a == b
 | _, _ => false
noncomputable def D.beqL : List D → List D → Bool
 | [], [] => true
 | a :: r, b :: t => D.beq a b && D.beqL r t
 | _, _ => false
end
mutual
theorem D.beq_eq : ∀ {a b : D}, D.beq a b = true → a = b
 | .non, b, h => by cases b <;> first | rfl | simp [D.beq] at h
 | .bl x, b, h => by cases b <;> simp [D.beq] at h; rw [h]
 | .int x, b, h => by cases b <;> simp [D.beq] at h; rw [h]
 | .str x, b, h => by cases b <;> simp [D.beq] at h; rw [h]
 | .loc x, b, h => by cases b <;> simp [D.beq] at h; rw [h]
 | .tup x, b, h => by
  cases b with
  | tup y =>
   have e : x = y := D.beqL_eq (by simpa [D.beq] using h)
   rw [e]
  | _ => simp [D.beq] at h
theorem D.beqL_eq : ∀ {a b : List D}, D.beqL a b = true → a = b
 | [], [], _ => rfl
 | [], _ :: _, h => by simp [D.beqL] at h
 | _ :: _, [], h => by simp [D.beqL] at h
 | x :: r, y :: t, h => by
  simp only [D.beqL, Bool.and_eq_true] at h
  rw [D.beq_eq h.1, D.beqL_eq h.2]
end
mutual
theorem D.beq_refl : ∀ a : D, D.beq a a = true
 | .non => rfl
 | .bl x => by simp [D.beq]
 | .int x => by simp [D.beq]
 | .str x => by simp [D.beq]
 | .loc x => by simp [D.beq]
 | .tup x => by simp only [D.beq]; exact D.beqL_refl x
theorem D.beqL_refl : ∀ a : List D, D.beqL a a = true
 | [] => rfl
 | x :: r => by simp only [D.beqL, Bool.and_eq_true]; exact ⟨D.beq_refl x, D.beqL_refl r⟩
end
instance : DecidableEq D := fun a b => decidable_of_iff (D.beq a b = true) ⟨D.beq_eq, fun h => h ▸ D.beq_refl a⟩
inductive Cell where
 | lst (ds : List D)
 | frz (ds : List D)
 | dct (kvs : List (D × D))
 | dcn (kvs : List (D × D))
 | dcf (kvs : List (D × D))
 | dcg (kvs : List (D × D))
 | fnc (i : Nat)
 | ins (c : Nat) (fs : List (Str × D))
 | exn (c : Nat)
 deriving Inhabited
abbrev Sto := List Cell
abbrev Env := List (Option D)
inductive Res (α : Type) where
 | ok (a : α) (st : Sto)
 | exc (c : Nat) (st : Sto)
 | bad
def Res.bind {α β : Type} (r : Res α) (f : α → Sto → Res β) : Res β := match r with
 | .ok a st => f a st
 | .exc c st => .exc c st
 | .bad => .bad
@[simp] theorem Bj {α β : Type} (a : α) (st : Sto) (f : α → Sto → Res β) : (Res.ok a st).bind f = f a st := rfl
@[simp] theorem anl {α β : Type} (c : Nat) (st : Sto) (f : α → Sto → Res β) : (Res.exc c st : Res α).bind f = .exc c st := rfl
@[simp] theorem anm {α β : Type} (f : α → Sto → Res β) : (Res.bad : Res α).bind f = .bad := rfl
inductive Ty where
 | b (x : String) | o (n : Nat)
 deriving DecidableEq
noncomputable def Jk : Cell → Option Ty
 | .lst _ => some (.b "list")
 | .frz _ => some (.b "list")
 | .dct _ => some (.b "dict")
 | .dcn _ => some (.b "dict")
 | .dcf _ => some (.b "dict")
 | .dcg _ => some (.b "dict")
 | .fnc _ => none
 | .ins _ _ => none
 | .exn c => some (.o c)
noncomputable def Di (st : Sto) : D → Option Ty
 | .non => some (.b "NoneType")
 | .bl _ => some (.b "bool")
 | .int _ => some (.b "int")
 | .str _ => some (.b "str")
 | .tup _ => some (.b "tuple")
 | .loc n => (st[n]?).bind Jk
noncomputable def av (st : Sto) (n : Nat) : Option (List D) := match st[n]? with
 | some (.lst ds) => some ds
 | some (.frz ds) => some ds
 | _ => none
noncomputable def fh (st : Sto) : D → Option (List D)
 | .tup ds => some ds
 | .loc n => av st n
 | _ => none
noncomputable def truth (st : Sto) : D → Option Bool
 | .non => some false
 | .bl b => some b
 | .int i => some (i != 0)
 | .str x => if x.length ≤ sizeLine then some ((x.length : Int) != 0) else none
 | .tup ds => some (!ds.isEmpty)
 | .loc n => (av st n).map fun ds => !ds.isEmpty
def bw {α : Type} : List (Option α) → Option (List α)
 | [] => some []
 | some a :: r => (bw r).map (a :: ·)
 | none :: _ => none
noncomputable def au (st : Sto) : Nat → D → Option PyData
 | _, .non => some .none
 | _, .bl b => some (.bool b)
 | _, .int i => some (.int i)
 | _, .str x => if PyData.canLay0 (.str x) = true then some (.str x) else none
 | 0, _ => none
 | n + 1, .tup ds => (bw (ds.map (au st n))).map .tuple
 | n + 1, .loc m => (av st m).bind fun ds => (bw (ds.map (au st n))).map .list
noncomputable def eqV (st : Sto) (a b : D) : Option Bool := match au st 40 a, au st 40 b with
 | some x, some y => some (PyData.eqv x y)
 | _, _ => none
inductive Op where
 | add | sub | mul | fdiv | mod | pow
inductive Cm where
 | eq | ne | lt | le | gt | ge | isN | notN | inL | notIn
inductive Bt where
 | absB | lenB | listB | allB | anyB | lenSetB
 deriving DecidableEq
inductive Mt where
 | append | pop | get | upd
set_option genInjectivity false
mutual
inductive E where
 | var (i : Nat)
 | cst (d : D)
 | tupE (es : Es)
 | lstE (es : Es)
 | op (o : Op) (a b : E)
 | neg (a : E)
 | cm (c : Cm) (a b : E)
 | andE (a b : E)
 | orE (a b : E)
 | notE (a : E)
 | ifE (c a b : E)
 | call (f : Nat) (es : Es) (dv : List D)
 | bt (f : Bt) (es : Es)
 | ix (a b : E)
 | isi (a : E) (t : Ty)
 | sl (k : Nat) (a : E) (es : Es)
 | chn (c1 c2 : Cm) (a b c : E)
 | fld (c : Nat) (o : E) (f : Str)
 | mk (c f : Nat) (es : Es)
 | br (c f : Nat) (m : Str) (o : E) (es : Es)
 | callV (is : List Nat) (f : E) (es : Es)
 | tabV (rows : List (Str × D)) (k : E)
 | tabIn (neg : Bool) (rows : List Str) (k : E)
 | tabF (rows : List (Str × Nat)) (k : E)
 | mt (m : Mt) (o : E) (es : Es)
 | dcomp (n : Nat) (one : Bool) (nl : Nat) (tg : List Nat) (fv : List Nat) (it : E) (ifs : Es) (kx vx : E)
 | comp (n : Nat) (one : Bool) (nl : Nat) (tg : List Nat) (fv : List Nat) (it : E) (ifs : Es) (elt : E)
inductive Es where
 | nil
 | cons (e : E) (es : Es)
end
mutual
inductive S where
 | set (i : Nat) (e : E)
 | unp (is : List Nat) (e : E)
 | par (i j : Nat) (a b : E)
 | aug (i : Nat) (o : Op) (e : E)
 | ifS (c : E) (a b : Ss)
 | whileS (c : E) (b : Ss)
 | forS (tg : List Nat) (one : Bool) (k : Bool) (it : E) (b : Ss)
 | forR (tg : List Nat) (es : Es) (b : Ss)
 | forZT (t1 : List Nat) (o1 : Bool) (t2 : List Nat) (o2 : Bool) (a c : E) (b : Ss)
 | setf (c : Nat) (o : E) (f : Str) (e : E)
 | ret (e : E)
 | ex (e : E)
 | raiseS (c : Nat)
 | tryS (b : Ss) (c : Nat) (i : Nat) (h : Ss)
 | tryR (b : Ss) (c d : Nat)
 | pass
inductive Ss where
 | nil
 | cons (s : S) (r : Ss)
end
set_option genInjectivity true
noncomputable def BIG : Nat := 2 ^ 4000
def Io (i : Int) : Prop := -(2 ^ 64) < i ∧ i < 2 ^ 64
instance (i : Int) : Decidable (Io i) := by unfold Io; infer_instance
def gf (i j : Int) : Prop := Io i ∨ Io j ∨ (i.natAbs < BIG ∧ j.natAbs < BIG)
instance (i j : Int) : Decidable (gf i j) := by unfold gf; infer_instance
def Gf (j : Int) : Prop := j ≠ 0 ∧ j.natAbs < BIG
instance (j : Int) : Decidable (Gf j) := by unfold Gf; infer_instance
def jl (i j : Int) : Prop := 0 ≤ j ∧ j ≤ 1000000 ∧ i.natAbs < 2 ^ 64
instance (i j : Int) : Decidable (jl i j) := by unfold jl; infer_instance
noncomputable def Cw (st : Sto) (n : Nat) : Option (List (D × D)) := match st[n]? with
 | some (.dct kvs) => some kvs
 | _ => none
noncomputable def bx (kvs : List (D × D)) (k : D) : Option D := (kvs.find? fun p => decide (p.1 = k)).map (·.2)
noncomputable def Fh (kvs : List (D × D)) (k v : D) : List (D × D) := if (kvs.any fun p => decide (p.1 = k)) = true then kvs.map fun p => if p.1 = k then (p.1, v) else p else kvs ++ [(k, v)]
noncomputable def Dq : D → Bool
 | .str _ => true
 | .int _ => true
 | _ => false
noncomputable def okN : Nat → D → Bool
 | _, .int _ => true
 | _, .str x => PyData.canLay0 (.str x)
 | n + 1, .tup ds => ds.all (okN n)
 | _, _ => false
noncomputable def yt : D → Bool
 | .tup ds => okN 8 (.tup ds)
 | _ => false
noncomputable def opD (o : Op) (a b : D) (st : Sto) : Res D := match o, a, b with
 | .add, .int i, .int j => .ok (.int (i + j)) st
 | .sub, .int i, .int j => .ok (.int (i - j)) st
 | .mul, .int i, .int j => if gf i j then .ok (.int (i * j)) st else .bad
 | .fdiv, .int i, .int j => if Gf j then .ok (.int (i.fdiv j)) st else .bad
 | .mod, .int i, .int j => if j ≠ 0 then .ok (.int (i.fmod j)) st else .bad
 | .pow, .int i, .int j => if jl i j then .ok (.int (i ^ j.toNat)) st else .bad
 | .add, .str a, .str b => if a.length + b.length ≤ sizeLine then .ok (.str (a ++ b)) st else .bad
 | .add, .loc n, .loc m => match st[n]?, st[m]? with
  | some (.lst xs), some (.lst ys) => if xs.length + ys.length ≤ sizeLine then .ok (.loc st.length) (st ++ [.lst (xs ++ ys)]) else .bad
  | _, _ => .bad
 | .mul, .str z, .int k => if 1 < k ∧ k < 2 ^ 63 ∧ 0 < z.length ∧ z.length * k.toNat ≤ sizeLine then .ok (.str (Hc z k.toNat)) st else .bad
 | .mul, .tup ds, .int k => if -(2 ^ 63) ≤ k ∧ k < 2 ^ 63 ∧ ds.length * k.toNat ≤ sizeLine then .ok (.tup (List.replicate k.toNat ds).flatten) st else .bad
 | .mul, .loc n, .int k => match st[n]? with
  | some (.lst xs) => if -(2 ^ 63) ≤ k ∧ k < 2 ^ 63 ∧ xs.length * k.toNat ≤ sizeLine then .ok (.loc st.length) (st ++ [.lst (List.replicate k.toNat xs).flatten]) else .bad
  | _ => .bad
 | _, _, _ => .bad
noncomputable def Mf : D → Bool
 | .non => true
 | .bl _ => true
 | .int _ => true
 | .str _ => true
 | _ => false
noncomputable def toV : D → L2.V
 | .non => .non
 | .bl b => .bl b
 | .int i => .int i
 | .str x => .str x
 | _ => .non
noncomputable def inS (st : Sto) (a b : D) : Option Bool := match au st 40 a, au st 41 b with
 | some x, some (.list ys) => some (ys.any fun y => PyData.eqv y x)
 | some x, some (.tuple ys) => some (ys.any fun y => PyData.eqv y x)
 | _, _ => none
noncomputable def inD (st : Sto) (a b : D) : Option Bool := match b with
 | .str y => match a with | .str x => some (!(Builtin.Str.occurrences y x 0 y.length 1).isEmpty) | _ => none
 | _ => inS st a b
noncomputable def cmD (c : Cm) (a b : D) (st : Sto) : Res D := match c with
 | .eq => match eqV st a b with | some x => .ok (.bl x) st | none => .bad
 | .ne => match eqV st a b with | some x => .ok (.bl (!x)) st | none => .bad
 | .lt => match a, b with | .int i, .int j => .ok (.bl (decide (i < j))) st | _, _ => .bad
 | .le => match a, b with | .int i, .int j => .ok (.bl (decide (i ≤ j))) st | _, _ => .bad
 | .gt => match a, b with | .int i, .int j => .ok (.bl (decide (j < i))) st | _, _ => .bad
 | .ge => match a, b with | .int i, .int j => .ok (.bl (decide (j ≤ i))) st | _, _ => .bad
 | .isN => match b with | .non => .ok (.bl (decide (a = .non))) st | .bl c => .ok (.bl (decide (a = .bl c))) st | _ => .bad
 | .notN => match b with | .non => .ok (.bl (!decide (a = .non))) st | .bl c => .ok (.bl (!decide (a = .bl c))) st | _ => .bad
 | .inL => match inD st a b with | some x => .ok (.bl x) st | none => .bad
 | .notIn => match inD st a b with | some x => .ok (.bl (!x)) st | none => .bad
noncomputable def atD (xs : List D) (i : Int) : Option D := L2.atI xs i
noncomputable def ixS (a b : D) (st : Sto) : Res D := match b with
 | .int i => match fh st a with
  | some xs => match atD xs i with | some d => .ok d st | none => .bad
  | none => match a with
   | .str z => match L2.atI z.cps.toList i with
    | some c => if z.length ≤ sizeLine then .ok (.str ⟨#[c]⟩) st else .bad
    | none => .bad
   | _ => .bad
 | _ => .bad
noncomputable def ixD (a b : D) (st : Sto) : Res D := ixS a b st
noncomputable def kf (k : Nat) (ds : List D) : Option (Option Int × Option Int) := match k, ds with
 | 0, [] => some (none, none)
 | 1, [.int i] => some (some i, none)
 | 2, [.int j] => some (none, some j)
 | 3, [.int i, .int j] => some (some i, some j)
 | _, _ => none
def cutD {α : Type} (xs : List α) (lo hi : Option Int) : List α := (xs.drop (HT.sIx xs.length 0 lo)).take (HT.sIx xs.length xs.length hi - HT.sIx xs.length 0 lo)
noncomputable def slD (k : Nat) (a : D) (ds : List D) (st : Sto) : Res D := match kf k ds with
 | some (lo, hi) => match a with
  | .tup xs => .ok (.tup (cutD xs lo hi)) st
  | .loc n => match av st n with
   | some xs => .ok (.loc st.length) (st ++ [.lst (cutD xs lo hi)])
   | none => .bad
  | _ => .bad
 | none => .bad
noncomputable def Eh : List D → Option (List Bool)
 | [] => some []
 | .bl b :: r => (Eh r).map (b :: ·)
 | _ => none
noncomputable def qf (xs : List D) : List D := xs.foldl (fun acc x => if x ∈ acc then acc else acc ++ [x]) []
noncomputable def cy (f : Str) (v : D) : List (Str × D) → List (Str × D)
 | [] => [(f, v)]
 | (g, x) :: r => if g = f then (g, v) :: r else (g, x) :: cy f v r
noncomputable def btD (f : Bt) (ds : List D) (st : Sto) : Res D := match f with
 | .absB => (match ds with | [.int i] => .ok (.int (if i < 0 then -i else i)) st | _ => .bad)
 | .lenB => (match ds with
  | [.tup xs] => .ok (.int xs.length) st
  | [.loc n] => (match av st n with | some xs => .ok (.int xs.length) st | none => .bad)
  | [.str z] => if z.length ≤ sizeLine then .ok (.int z.length) st else .bad
  | _ => .bad)
 | .listB => (match ds with | [d] => (match fh st d with | some xs => .ok (.loc st.length) (st ++ [.lst xs]) | none => .bad) | _ => .bad)
 | .allB => (match ds with | [.loc n] => (match (av st n).bind Eh with | some bs => .ok (.bl (bs.all id)) st | none => .bad) | _ => .bad)
 | .lenSetB => (match ds with | [.loc n] => (match av st n with | some xs => if xs.all Dq = true ∧ xs.length < 4000 then .ok (.int (qf xs).length) st else .bad | none => .bad) | _ => .bad)
 | .anyB => (match ds with | [.loc n] => (match (av st n).bind Eh with | some bs => .ok (.bl (bs.any id)) st | none => .bad) | _ => .bad)
noncomputable def Hd (st : Sto) : D → Bool
 | .loc n => match st[n]? with | some (.lst _) => true | _ => false
 | _ => false
noncomputable def rdy (m : Mt) (st : Sto) (d : D) : Bool := match m with
 | .get => (match d with | .loc n => (Cw st n).isSome | _ => false)
 | .upd => (match d with | .loc n => (Cw st n).isSome | _ => false)
 | _ => Hd st d
noncomputable def Mg (kvs more : List (D × D)) : List (D × D) := more.foldl (fun acc kv => Fh acc kv.1 kv.2) kvs
noncomputable def mtD (m : Mt) (o : D) (ds : List D) (st : Sto) : Res D := match m with
 | .append => (match o, ds with
  | .loc n, [d] => (match st[n]? with
   | some (.lst xs) => if xs.length < sizeLine then .ok .non (st.set n (.lst (xs ++ [d]))) else .bad
   | _ => .bad)
  | _, _ => .bad)
 | .get => (match o with
  | .loc n => (match Cw st n with
   | some kvs => (match ds with
    | [k] => if Dq k then .ok ((bx kvs k).getD .non) st else .bad
    | [k, x] => if Dq k then .ok ((bx kvs k).getD x) st else .bad
    | _ => .bad)
   | none => .bad)
  | _ => .bad)
 | .upd => (match o, ds with
  | .loc n, [.loc m] => (match Cw st n, Cw st m with
   | some kvs, some more => if n ≠ m ∧ kvs.length + more.length ≤ sizeLine then .ok .non (st.set n (.dct (Mg kvs more))) else .bad
   | _, _ => .bad)
  | _, _ => .bad)
 | .pop => (match o, ds with
  | .loc n, [] => (match st[n]? with
   | some (.lst xs) => (match xs.getLast? with | some d => .ok d (st.set n (.lst xs.dropLast)) | none => .bad)
   | _ => .bad)
  | _, _ => .bad)
noncomputable def subB : String → String → Option Bool := fun t c => if t = c then some true else if t = "bool" ∧ c = "int" then some true else if c = "bool" ∨ c = "int" ∨ c = "tuple" ∨ c = "list" ∨ c = "str" ∨ c = "dict" then some false else none
noncomputable def Gg (tab : Nat → Ty → Option Bool) : Ty → Ty → Option Bool
 | .b t, .b c => subB t c
 | .b _, .o _ => none
 | .o n, c => tab n c
abbrev Or := Nat → List D → Sto → Res D
section
variable (tab : Nat → Ty → Option Bool) (call : Or)
noncomputable def cz (env : Env) (i : Nat) : Option D := (env[i]?).join
noncomputable def By : List Nat → List D → Env → Option Env
 | [], [], env => some env
 | i :: r, d :: t, env => if i < env.length then By r t (env.set i (some d)) else none
 | _, _, _ => none
noncomputable def store (tg : List Nat) (one : Bool) (d : D) (env : Env) : Option Env := if one then By tg [d] env else match d with
 | .tup ds => By tg ds env
 | _ => none
def He (xs ys : List D) : List D := List.zipWith (fun x y => .tup [x, y]) xs ys
def ip (t1 : List Nat) (o1 : Bool) (t2 : List Nat) (o2 : Bool) (d : D) (env : Env) : Option Env := match d with
 | .tup [x, y] => (store t1 o1 x env).bind fun env1 => store t2 o2 y env1
 | _ => none
noncomputable def gh (k : Bool) (st : Sto) : D → Option (List D × Option Nat)
 | .tup ds => if k then some (ds, none) else none
 | .loc n => if k then none else (av st n).map fun ds => (ds, some n)
 | _ => none
noncomputable def stays (st : Sto) (p : Option Nat) (ds : List D) : Bool := match p with
 | none => true
 | some n => decide (av st n = some ds)
noncomputable def Dv (lo : Int) (n : Nat) : List D := (List.range n).map fun k => .int (lo + (k : Nat))
noncomputable def Fi (ds : List D) : Option (List D) := match ds with
 | [.int j] => if -(2 ^ 62) ≤ j ∧ j < 2 ^ 62 then some (Dv 0 j.toNat) else none
 | [.int i, .int j] => if -(2 ^ 62) ≤ i ∧ i < 2 ^ 62 ∧ -(2 ^ 62) ≤ j ∧ j < 2 ^ 62 then some (Dv i (j - i).toNat) else none
 | _ => none
noncomputable def compLoop (all : List D) (p : Option Nat) (n0 : Nat) (body : D → Sto → Res (Option D)) : List D → Sto → Res Unit
 | [], st => if stays st p all then .ok () st else .bad
 | d :: r, st => if stays st p all then (match body d st with
  | .ok (some y) st' => (match st'[n0]? with
   | some (.lst ys) => if ys.length < sizeLine then compLoop all p n0 body r (st'.set n0 (.lst (ys ++ [y]))) else .bad
   | _ => .bad)
  | .ok none st' => compLoop all p n0 body r st'
  | _ => .bad)
  else .bad
noncomputable def Bu (all : List D) (p : Option Nat) (n0 : Nat) (body : D → Sto → Res (Option (D × D))) : List D → Sto → Res Unit
 | [], st => if stays st p all then .ok () st else .bad
 | d :: r, st => if stays st p all then (match body d st with
  | .ok (some (k, y)) st' => (match st'[n0]? with
   | some (.dct kvs) => if kvs.length < sizeLine ∧ Dq k = true then Bu all p n0 body r (st'.set n0 (.dct (Fh kvs k y))) else .bad
   | _ => .bad)
  | .ok none st' => Bu all p n0 body r st'
  | _ => .bad)
  else .bad
noncomputable def Ei (k : Nat) (st : Sto) (d : D) : Option (List D × Option Nat) := match k, d with
 | 0, .loc n => (av st n).map fun ds => (ds, some n)
 | 1, .tup ds => some (ds, none)
 | 2, .tup ds => (Fi ds).map fun xs => (xs, none)
 | 4, .loc n => (match st[n]? with | some (.dcf kvs) => some (kvs.map (·.1), none) | _ => none)
 | 5, .loc n => (match st[n]? with | some (.dcg kvs) => some (kvs.map (·.1), none) | _ => none)
 | 6, .loc n => (match st[n]? with | some (.dcg kvs) => some (kvs.map fun p => .tup [p.1, p.2], none) | _ => none)
 | 3, .str z => if z.length ≤ sizeLine then some (z.cps.toList.map fun c => .str ⟨#[c]⟩, none) else none
 | _, _ => none
noncomputable def Co (nl : Nat) (fv : List Nat) (env : Env) : Env := List.replicate nl none ++ fv.map (cz env)
mutual
noncomputable def Ab : E → Env → Sto → Res D
 | .var i, env, st => match cz env i with | some d => .ok d st | none => .bad
 | .cst d, _, st => .ok d st
 | .tupE es, env, st => (Av es env st).bind fun ds st => if ds.length ≤ sizeLine then .ok (.tup ds) st else .bad
 | .lstE es, env, st => (Av es env st).bind fun ds st => if ds.length ≤ sizeLine then .ok (.loc st.length) (st ++ [.lst ds]) else .bad
 | .op o a b, env, st => (Ab a env st).bind fun x st => (Ab b env st).bind fun y st => opD o x y st
 | .neg a, env, st => (Ab a env st).bind fun x st => match x with | .int i => .ok (.int (-i)) st | _ => .bad
 | .cm c a b, env, st => (Ab a env st).bind fun x st => (Ab b env st).bind fun y st => cmD c x y st
 | .andE a b, env, st => (Ab a env st).bind fun x st => match x with | .bl true => Ab b env st | .bl false => .ok (.bl false) st | _ => .bad
 | .orE a b, env, st => (Ab a env st).bind fun x st => match x with | .bl true => .ok (.bl true) st | .bl false => Ab b env st | _ => .bad
 | .notE a, env, st => (Ab a env st).bind fun x st => match x with | .bl b => .ok (.bl (!b)) st | _ => .bad
 | .ifE c a b, env, st => (aq c env st).bind fun x st => if x then Ab a env st else Ab b env st
 | .call f es dv, env, st => (Av es env st).bind fun ds st => call f (ds ++ dv) st
 | .bt f es, env, st => (Av es env st).bind fun ds st => btD f ds st
 | .ix a b, env, st => (Ab a env st).bind fun x st => (Ab b env st).bind fun y st => ixD x y st
 | .isi a t, env, st => (Ab a env st).bind fun x st => match (Di st x).bind fun u => Gg tab u t with | some b => .ok (.bl b) st | none => .bad
 | .sl k a es, env, st => (Ab a env st).bind fun x st => (ej es env st).bind fun ds st => slD k x ds st
 | .chn c1 c2 a b c, env, st => (Ab a env st).bind fun x st => (Ab b env st).bind fun y st => (cmD c1 x y st).bind fun z st => match z with | .bl true => (Ab c env st).bind fun w st => cmD c2 y w st | .bl false => .ok (.bl false) st | _ => .bad
 | .fld c o f, env, st => (Ab o env st).bind fun x st => match x with
  | .loc n => match st[n]? with | some (.ins c' fs) => (match fs.lookup f with | some d => if c' = c then .ok d st else .bad | none => .bad) | _ => .bad
  | _ => .bad
 | .mk c f es, env, st => (Av es env st).bind fun ds st => (call f (.loc st.length :: ds) (st ++ [.ins c []])).bind fun r st' => match r with | .non => .ok (.loc st.length) st' | _ => .bad
 | .br c f m o es, env, st => (Ab o env st).bind fun x st => match x with
  | .loc n => match st[n]? with | some (.ins c' fs) => if c' = c ∧ fs.lookup m = none then (Av es env st).bind fun ds st => call f (.loc n :: ds) st else .bad | _ => .bad
  | _ => .bad
 | .callV is f es, env, st => (Ab f env st).bind fun x st => match x with
  | .loc n => match st[n]? with | some (.fnc i) => if is.contains i = true then (Av es env st).bind fun ds st => call i ds st else .bad | _ => .bad
  | _ => .bad
 | .tabV rows k, env, st => (Ab k env st).bind fun x st => match x with
  | .str z => (match rows.lookup z with | some d => .ok d st | none => .bad)
  | _ => .bad
 | .tabIn neg rows k, env, st => (Ab k env st).bind fun x st => match x with
  | .str z => .ok (.bl (xor neg (decide (z ∈ rows)))) st
  | .non => .ok (.bl neg) st
  | _ => .bad
 | .tabF rows k, env, st => (Ab k env st).bind fun x st => match x with
  | .str z => (match rows.lookup z with | some i => .ok (.loc st.length) (st ++ [.fnc i]) | none => .bad)
  | _ => .bad
 | .mt m o es, env, st => (Ab o env st).bind fun x st => if rdy m st x then (Av es env st).bind fun ds st => mtD m x ds st else .bad
 | .dcomp n one nl tg fv it ifs kx vx, env, st => (Ab it env st).bind fun d st => match Ei n st d with
  | some (xs, p) => (Bu xs p st.length (fun d st => match store tg one d (Co nl fv env) with
   | some env' => (Cz ifs env' st).bind fun b st => if b then (Ab kx env' st).bind fun k st => (Ab vx env' st).bind fun y st => .ok (some (k, y)) st else .ok none st
   | none => .bad) xs (st ++ [.dct []])).bind fun _ st' => .ok (.loc st.length) st'
  | none => .bad
 | .comp n one nl tg fv it ifs elt, env, st => (Ab it env st).bind fun d st => match Ei n st d with
  | some (xs, p) => (compLoop xs p st.length (fun d st => match store tg one d (Co nl fv env) with
   | some env' => (Cz ifs env' st).bind fun b st => if b then (Ab elt env' st).bind fun y st => .ok (some y) st else .ok none st
   | none => .bad) xs (st ++ [.lst []])).bind fun _ st' => .ok (.loc st.length) st'
  | none => .bad
noncomputable def Cz : Es → Env → Sto → Res Bool
 | .nil, _, st => .ok true st
 | .cons c r, env, st => (aq c env st).bind fun b st => if b then Cz r env st else .ok false st
noncomputable def ej : Es → Env → Sto → Res (List D)
 | .nil, _, st => .ok [] st
 | .cons e es, env, st => (Ab e env st).bind fun d st => match d with | .int _ => (ej es env st).bind fun ds st => .ok (d :: ds) st | _ => .bad
noncomputable def Av : Es → Env → Sto → Res (List D)
 | .nil, _, st => .ok [] st
 | .cons e es, env, st => (Ab e env st).bind fun d st => (Av es env st).bind fun ds st => .ok (d :: ds) st
noncomputable def aq : E → Env → Sto → Res Bool
 | .andE a b, env, st => (aq a env st).bind fun x st => if x then aq b env st else .ok false st
 | .orE a b, env, st => (aq a env st).bind fun x st => if x then .ok true st else aq b env st
 | .notE a, env, st => (aq a env st).bind fun x st => .ok (!x) st
 | .var i, env, st => match cz env i with | some d => (match truth st d with | some b => .ok b st | none => .bad) | none => .bad
 | .cst d, env, st => match truth st d with | some b => .ok b st | none => .bad
 | .cm c a b, env, st => (Ab a env st).bind fun x st => (Ab b env st).bind fun y st => (cmD c x y st).bind fun d st => match d with | .bl b => .ok b st | _ => .bad
 | .call f es dv, env, st => (Av es env st).bind fun ds st => (call f (ds ++ dv) st).bind fun d st => match truth st d with | some b => .ok b st | none => .bad
 | .bt f es, env, st => (Av es env st).bind fun ds st => (btD f ds st).bind fun d st => match truth st d with | some b => .ok b st | none => .bad
 | .ix a b, env, st => (Ab a env st).bind fun x st => (Ab b env st).bind fun y st => (ixD x y st).bind fun d st => match truth st d with | some b => .ok b st | none => .bad
 | .mt m o es, env, st => (Ab o env st).bind fun x st => if rdy m st x then (Av es env st).bind fun ds st => (mtD m x ds st).bind fun d st => match truth st d with | some b => .ok b st | none => .bad else .bad
 | .isi a t, env, st => (Ab a env st).bind fun x st => match (Di st x).bind fun u => Gg tab u t with | some b => .ok b st | none => .bad
 | .tabIn neg rows k, env, st => (Ab k env st).bind fun x st => match x with
  | .str z => .ok (xor neg (decide (z ∈ rows))) st
  | .non => .ok neg st
  | _ => .bad
 | .chn c1 c2 a b c, env, st => (Ab a env st).bind fun x st => (Ab b env st).bind fun y st => (cmD c1 x y st).bind fun z st => match z with | .bl true => (Ab c env st).bind fun w st => (cmD c2 y w st).bind fun d st => (match d with | .bl b => .ok b st | _ => .bad) | .bl false => .ok false st | _ => .bad
 | _, _, _ => .bad
end
inductive Fl where
 | next (env : Env) | ret (d : D) | brk (env : Env) | cont (env : Env)
noncomputable def forLoop (all : List D) (p : Option Nat) (body : D → Env → Sto → Res Fl) : List D → Env → Sto → Res Fl
 | [], env, st => if stays st p all then .ok (.next env) st else .bad
 | d :: r, env, st => if stays st p all then (body d env st).bind fun f st' => match f with
  | .next env' => forLoop all p body r env' st'
  | .cont env' => forLoop all p body r env' st'
  | .brk env' => .ok (.next env') st'
  | .ret x => .ok (.ret x) st'
  else .bad
def dj (ok : Sto → Bool) (body : D → Env → Sto → Res Fl) : List D → Env → Sto → Res Fl
 | [], env, st => if ok st then .ok (.next env) st else .bad
 | d :: r, env, st => if ok st then (body d env st).bind fun f st' => match f with
  | .next env' => dj ok body r env' st'
  | .cont env' => dj ok body r env' st'
  | .brk env' => .ok (.next env') st'
  | .ret x => .ok (.ret x) st'
  else .bad
noncomputable def whileLoop (test : Env → Sto → Res Bool) (body : Env → Sto → Res Fl) : Nat → Env → Sto → Res Fl
 | 0, _, _ => .bad
 | F + 1, env, st => (test env st).bind fun b st => if b then (body env st).bind fun f st' => match f with
  | .next env' => whileLoop test body F env' st'
  | .cont env' => whileLoop test body F env' st'
  | .brk env' => .ok (.next env') st'
  | .ret x => .ok (.ret x) st'
  else .ok (.next env) st
noncomputable def blank (env : Env) (i : Nat) (d : D) : Env := (List.replicate env.length none).set i (some d)
mutual
noncomputable def Ak (F : Nat) : S → Env → Sto → Res Fl
 | .pass, env, st => .ok (.next env) st
 | .set i e, env, st => (Ab tab call e env st).bind fun d st => if i < env.length then .ok (.next (env.set i (some d))) st else .bad
 | .unp is e, env, st => (Ab tab call e env st).bind fun d st => match store is false d env with | some env' => .ok (.next env') st | none => .bad
 | .par i j a b, env, st => (Ab tab call a env st).bind fun x st => (Ab tab call b env st).bind fun y st => if i < env.length ∧ j < env.length then .ok (.next ((env.set i (some x)).set j (some y))) st else .bad
 | .aug i o e, env, st => match cz env i with
  | some (.int x) => (Ab tab call e env st).bind fun y st => match y with
   | .int j => (opD o (.int x) (.int j) st).bind fun z st => if i < env.length then .ok (.next (env.set i (some z))) st else .bad
   | _ => .bad
  | _ => .bad
 | .setf c o f e, env, st => (Ab tab call e env st).bind fun y st => (Ab tab call o env st).bind fun x st => match x with
  | .loc n => match st[n]? with | some (.ins c' fs) => if fs.length < 900 ∧ c' = c then .ok (.next env) (st.set n (.ins c (cy f y fs))) else .bad | _ => .bad
  | _ => .bad
 | .ifS c a b, env, st => (aq tab call c env st).bind fun x st => if x then Ah F a env st else Ah F b env st
 | .whileS c b, env, st => whileLoop (aq tab call c) (Ah F b) F env st
 | .forR tg es b, env, st => (Av tab call es env st).bind fun ds st => match Fi ds with
  | some xs => forLoop xs none (fun d env st => match store tg true d env with | some env' => Ah F b env' st | none => .bad) xs env st
  | none => .bad
 | .forS tg one k it b, env, st => (Ab tab call it env st).bind fun d st => match gh k st d with
  | some (xs, p) => forLoop xs p (fun d env st => match store tg one d env with | some env' => Ah F b env' st | none => .bad) xs env st
  | none => .bad
 | .forZT t1 o1 t2 o2 a c b, env, st => (Av tab call (.cons a (.cons c .nil)) env st).bind fun ds st => match ds with
  | [.tup xs, .tup ys] => if xs.length ≤ ys.length then dj (fun _ => true) (fun d env st => match ip t1 o1 t2 o2 d env with | some env' => Ah F b env' st | none => .bad) (He xs ys) env st else .bad
  | _ => .bad
 | .ret e, env, st => (Ab tab call e env st).bind fun d st => .ok (.ret d) st
 | .ex e, env, st => (Ab tab call e env st).bind fun _ st => .ok (.next env) st
 | .raiseS c, _, st => .exc c st
 | .tryS b c i h, env, st => match Ah F b env st with
  | .exc k st' => match tab k (.o c) with
   | some true => if i < env.length then (match Ah F h (blank env i (.loc st'.length)) (st' ++ [.exn k]) with
    | .ok (.next env2) st'' => .ok (.next (env2.set i none)) st''
    | .ok (.ret d) st'' => .ok (.ret d) st''
    | _ => .bad)
    else .bad
   | _ => .bad
  | r => r
 | .tryR b c d, env, st => match Ah F b env st with
  | .exc k st' => (match tab k (.o c) with
   | some true => .exc d (st' ++ [.exn k])
   | some false => .exc k st'
   | none => .bad)
  | r => r
noncomputable def Ah (F : Nat) : Ss → Env → Sto → Res Fl
 | .nil, env, st => .ok (.next env) st
 | .cons s r, env, st => (Ak F s env st).bind fun f st => match f with
  | .next env' => Ah F r env' st
  | f => .ok f st
end
end
structure Fn where
 np : Nat
 nl : Nat
 body : Ss
noncomputable def fin (r : Res Fl) : Res D := r.bind fun f st => match f with
 | .next _ => .ok .non st
 | .ret d => .ok d st
 | _ => .bad
noncomputable def Bl (tab : Nat → Ty → Option Bool) (fns : List Fn) (F : Nat) : Nat → Or
 | 0 => fun _ _ _ => .bad
 | n + 1 => fun f args st => match fns[f]? with
  | some fn => if args.length = fn.np ∧ fn.np ≤ fn.nl then fin (Ah tab (Bl tab fns F n) F fn.body (args.map some ++ List.replicate (fn.nl - fn.np) none) st) else .bad
  | none => .bad
end DD
namespace DD
open PySem L2
structure CW where
 w : World
 f : Nat → Addr
 fn : Nat → Addr
instance : CoeFun CW (fun _ => Nat → Addr) := ⟨CW.f⟩
section
variable (K : W.Frag)
mutual
def Rep (rho : List Addr) (H : Hp) : D → V → Prop
 | .non, v => v = .non
 | .bl b, v => v = .bl b
 | .int i, v => v = .int i
 | .str x, v => v = .str x
 | .tup ds, v => ∃ a vs, v = .ref a ∧ SqT K H a vs ∧ RepL rho H ds vs
 | .loc n, v => ∃ a, rho[n]? = some a ∧ v = .ref a
def RepL (rho : List Addr) (H : Hp) : List D → List V → Prop
 | [], vs => vs = []
 | d :: r, vs => ∃ v t, vs = v :: t ∧ Rep rho H d v ∧ RepL rho H r t
end
structure Keep (rho : List Addr) (H : Hp) (rho' : List Addr) (H' : Hp) : Prop where
 ext : ∃ m, rho' = rho ++ m
 tup : ∀ a xs, SqT K H a xs → SqT K H' a xs
 fz : ∀ a o u, H a = some (.frz o u) → H' a = some (.frz o u)
variable {K}
theorem Keep.refl (rho : List Addr) (H : Hp) : Keep K rho H rho H := ⟨⟨[], by simp⟩, fun _ _ h => h, fun _ _ _ h => h⟩
theorem Keep.trans {r1 r2 r3 : List Addr} {H1 H2 H3 : Hp} (a : Keep K r1 H1 r2 H2) (b : Keep K r2 H2 r3 H3) : Keep K r1 H1 r3 H3 := by
 obtain ⟨⟨m, rfl⟩, p, p2⟩ := a
 obtain ⟨⟨k, rfl⟩, q, q2⟩ := b
 exact ⟨⟨m ++ k, by simp⟩, fun a xs h => q a xs (p a xs h), fun a o ws h => q2 a o ws (p2 a o ws h)⟩
theorem Keep.at {r1 r2 : List Addr} {H1 H2 : Hp} (k : Keep K r1 H1 r2 H2) {n : Nat} {a : Addr} (h : r1[n]? = some a) : r2[n]? = some a := by
 obtain ⟨⟨m, rfl⟩, _⟩ := k
 have : n < r1.length := (List.getElem?_eq_some_iff.mp h).1
 rw [List.getElem?_append_left this]; exact h
mutual
theorem Rep.mono {r1 r2 : List Addr} {H1 H2 : Hp} (k : Keep K r1 H1 r2 H2) : ∀ {d : D} {v : V}, Rep K r1 H1 d v → Rep K r2 H2 d v
 | .non, v, h => by simpa [Rep] using h
 | .bl b, v, h => by simpa [Rep] using h
 | .int b, v, h => by simpa [Rep] using h
 | .str b, v, h => by simpa [Rep] using h
 | .tup ds, v, h => by
  simp only [Rep] at h ⊢
  obtain ⟨a, vs, e, q, r⟩ := h
  exact ⟨a, vs, e, k.tup a vs q, RepL.mono k r⟩
 | .loc n, v, h => by
  simp only [Rep] at h ⊢
  obtain ⟨a, e, q⟩ := h
  exact ⟨a, k.at e, q⟩
theorem RepL.mono {r1 r2 : List Addr} {H1 H2 : Hp} (k : Keep K r1 H1 r2 H2) : ∀ {d : List D} {v : List V}, RepL K r1 H1 d v → RepL K r2 H2 d v
 | [], v, h => by simpa [RepL] using h
 | x :: r, v, h => by
  simp only [RepL] at h ⊢
  obtain ⟨y, t, e, p, q⟩ := h
  exact ⟨y, t, e, Rep.mono k p, RepL.mono k q⟩
end
theorem RepL.length : ∀ {ds : List D} {vs : List V}, RepL K r H ds vs → ds.length = vs.length
 | [], vs, h => by simp only [RepL] at h; subst h; rfl
 | x :: t, vs, h => by
  simp only [RepL] at h
  obtain ⟨y, u, rfl, _, q⟩ := h
  simp [RepL.length q]
theorem RepL.get : ∀ {ds : List D} {vs : List V} {i : Nat} {d : D}, RepL K r H ds vs → ds[i]? = some d → ∃ v, vs[i]? = some v ∧ Rep K r H d v
 | [], vs, i, d, h, e => by simp at e
 | x :: t, vs, 0, d, h, e => by
  simp only [RepL] at h
  obtain ⟨y, u, rfl, p, q⟩ := h
  simp at e; subst e
  exact ⟨y, rfl, p⟩
 | x :: t, vs, i + 1, d, h, e => by
  simp only [RepL] at h
  obtain ⟨y, u, rfl, p, q⟩ := h
  simp at e
  obtain ⟨v, e1, e2⟩ := RepL.get q e
  exact ⟨v, by simpa using e1, e2⟩
theorem RepL.append : ∀ {ds es : List D} {vs us : List V}, RepL K r H ds vs → RepL K r H es us → RepL K r H (ds ++ es) (vs ++ us)
 | [], es, vs, us, h, g => by simp only [RepL] at h; subst h; simpa using g
 | x :: t, es, vs, us, h, g => by
  simp only [RepL] at h
  obtain ⟨y, u, rfl, p, q⟩ := h
  show RepL K r H (x :: (t ++ es)) (y :: (u ++ us))
  simp only [RepL]
  exact ⟨y, u ++ us, rfl, p, RepL.append q g⟩
theorem RepL.rep (h : RepL K r H ds vs) : ∀ k : Nat, RepL K r H (List.replicate k ds).flatten (List.replicate k vs).flatten
 | 0 => by simp [RepL]
 | k + 1 => by
  rw [List.replicate_succ, List.replicate_succ, List.flatten_cons, List.flatten_cons]
  exact h.append (RepL.rep h k)
theorem Bp.keep (s : Bp H H') (rho : List Addr) : Keep K rho H rho H' := ⟨⟨[], by simp⟩, fun a xs h => by
 rcases h with h | h
 · rcases h with h | ⟨o, h⟩
   · exact .inl (.inl (s _ _ h))
   · exact .inl (.inr ⟨o, s _ _ h⟩)
 · exact .inr h, fun a o ws h => s _ _ h⟩
theorem Gh (h : H p = none) (o : HO) : Bp H (upd H p o) := fun b u q => by rw [Bf (Ig q h)]; exact q
variable (K) (cls : CW)
def fj (a : Addr) (c : Value) : Heap → Prop := fun h => ∃ o vs, h.get? a = some o ∧ o.cls = c ∧ o.data = .fields vs
def fk (rho : List Addr) (H : Hp) (fs : List (Str × D)) (ws : List (Str × V)) : Prop := ∀ f, match fs.lookup f, ws.lookup f with
 | some d, some v => Rep K rho H d v
 | none, none => True
 | _, _ => False
def kD : D → Option Key
 | .int i => some (.inl i)
 | .str x => some (.inr x)
 | _ => none
def ba (rho : List Addr) (H : Hp) : List (D × D) → List (Key × V) → Prop
 | [], ws => ws = []
 | (k, d) :: r, ws => ∃ k' v t, ws = (k', v) :: t ∧ kD k = some k' ∧ Rep K rho H d v ∧ ba rho H r t
def Qf (w : World) : Nat → D → Int
 | _, .int i => hashInt i
 | _, .str x => hashStr w x
 | n + 1, .tup ds => reduceHash (Builtin.Tuple.tupleHashOf (ds.map (Qf w n)))
 | _, _ => 0
def qg (w : World) (a : Addr) (xs : List (D × Addr × V)) : Heap → Prop := fun h => (a == sysModules) = false ∧ xs.length ≤ sizeLine ∧ (xs.map (·.1)).Nodup ∧ ∃ o es ep, h.get? a = some o ∧ o.ExactDict ∧ o.data = .dict es ep ∧
 Paired (fun (x : D × Addr × V) (e : DictEntry) => e.hash = Qf w 8 x.1 ∧ e.key = .ref x.2.1 ∧ RelV x.2.2 e.val) xs es.toList
def fm (rho : List Addr) (H : Hp) : List (D × D) → List (D × Addr × V) → Prop
 | [], ws => ws = []
 | (k, d) :: r, ws => ∃ b v t, ws = (k, b, v) :: t ∧ yt k = true ∧ Rep K rho H k (.ref b) ∧ Rep K rho H d v ∧ fm rho H r t
def Yt (H : Hp) (a : Addr) (xs : List V) : Prop := (∃ o, H a = some (.frz o (.lst xs))) ∨
 ∃ (o : Obj) (its : Array Value) (n : Nat), K.lookup a = some o ∧ o.cls = .type "list" ∧ o.dict = none ∧ o.data = .seq its n ∧ its.size ≤ sizeLine ∧ Vals xs its.toList
def trk : Cell → Bool
 | .frz _ => false
 | .fnc _ => false
 | _ => true
def Fm (rho : List Addr) (H : Hp) (a : Addr) : Cell → Prop
 | .lst ds => ∃ vs, H a = some (.lst vs) ∧ RepL K rho H ds vs
 | .frz ds => ∃ vs, Yt K H a vs ∧ RepL K rho H ds vs
 | .dct kvs => ∃ ws, H a = some (.dK ws) ∧ ba K rho H kvs ws
 | .dcn kvs => ∃ xs, H a = some (.ext (qg cls.w a xs)) ∧ fm K rho H kvs xs
 | .dcf kvs => ∃ ws o, H a = some (.frz o (.dK ws)) ∧ ba K rho H kvs ws
 | .dcg kvs => ∃ xs o, H a = some (.frz o (.ext (qg cls.w a xs))) ∧ fm K rho H kvs xs
 | .fnc i => a = cls.fn i
 | .ins c fs => ∃ dx ws, H a = some (.ins (cls c) dx ws) ∧ ws.length = fs.length ∧ fk K rho H fs ws
 | .exn c => H a = some (.ext (fj a (.ref (cls c))))
structure StoRep (rho : List Addr) (st : Sto) (H : Hp) : Prop where
 len : rho.length = st.length
 nd : ∀ (n m : Nat) (a : Addr) (c d : Cell), rho[n]? = some a → rho[m]? = some a → st[n]? = some c → st[m]? = some d → trk c = true → trk d = true → n = m
 cells : ∀ (n : Nat) (a : Addr) (c : Cell), rho[n]? = some a → st[n]? = some c → Fm K cls rho H a c
structure EnvRep (rho : List Addr) (H : Hp) (env : Env) (sg : St) : Prop where
 len : env.length = sg.length
 val : ∀ (i : Nat) (d : D), env[i]? = some (some d) → ∃ v, sg[i]? = some (some v) ∧ Rep K rho H d v
variable {K cls}
theorem fk.mono {r1 r2 : List Addr} {H1 H2 : Hp} (k : Keep K r1 H1 r2 H2) {fs : List (Str × D)} {ws : List (Str × V)} (h : fk K r1 H1 fs ws) : fk K r2 H2 fs ws := fun f => by
 have q := h f
 revert q
 cases fs.lookup f <;> cases ws.lookup f <;> intro q <;> first | trivial | exact q.elim | exact Rep.mono k q
theorem ba.mono {r1 r2 : List Addr} {H1 H2 : Hp} (k : Keep K r1 H1 r2 H2) : ∀ {kvs : List (D × D)} {ws : List (Key × V)}, ba K r1 H1 kvs ws → ba K r2 H2 kvs ws
 | [], ws, h => by simpa [ba] using h
 | (x, d) :: r, ws, h => by
  simp only [ba] at h ⊢
  obtain ⟨k', v, t, e, p, q, w⟩ := h
  exact ⟨k', v, t, e, p, Rep.mono k q, ba.mono k w⟩
theorem fm.mono {r1 r2 : List Addr} {H1 H2 : Hp} (k : Keep K r1 H1 r2 H2) : ∀ {kvs : List (D × D)} {ws : List (D × Addr × V)}, fm K r1 H1 kvs ws → fm K r2 H2 kvs ws
 | [], ws, h => by simpa [fm] using h
 | (x, d) :: r, ws, h => by
  simp only [fm] at h ⊢
  obtain ⟨b, v, t, e, p, q, u, w⟩ := h
  exact ⟨b, v, t, e, p, Rep.mono k q, Rep.mono k u, fm.mono k w⟩
theorem Fm.stay (k : Keep K r1 H1 r2 H2) (h : Fm K cls r1 H1 a c) (e : ∀ o, H1 a = some o → H2 a = some o) : Fm K cls r2 H2 a c := by
 cases c with
 | lst ds => obtain ⟨vs, p, q⟩ := h; exact ⟨vs, e _ p, q.mono k⟩
 | frz ds =>
  obtain ⟨vs, p, q⟩ := h
  refine ⟨vs, ?_, q.mono k⟩
  rcases p with ⟨o, p⟩ | p
  · exact .inl ⟨o, e _ p⟩
  · exact .inr p
 | dct kvs => obtain ⟨ws, p, q⟩ := h; exact ⟨ws, e _ p, q.mono k⟩
 | dcn kvs => obtain ⟨ws, p, q⟩ := h; exact ⟨ws, e _ p, q.mono k⟩
 | dcf kvs => obtain ⟨ws, o, p, q⟩ := h; exact ⟨ws, o, e _ p, q.mono k⟩
 | dcg kvs => obtain ⟨ws, o, p, q⟩ := h; exact ⟨ws, o, e _ p, q.mono k⟩
 | fnc i => exact h
 | ins c fs => obtain ⟨dx, ws, p, l, q⟩ := h; exact ⟨dx, ws, e _ p, l, q.mono k⟩
 | exn c => exact e _ h
theorem Fm.some (h : Fm K cls r H a c) (t : trk c = true) : ∃ o, H a = some o := by
 cases c with
 | lst ds => obtain ⟨vs, p, q⟩ := h; exact ⟨_, p⟩
 | frz ds => cases t
 | dct kvs => obtain ⟨ws, p, q⟩ := h; exact ⟨_, p⟩
 | dcn kvs => obtain ⟨ws, p, q⟩ := h; exact ⟨_, p⟩
 | dcf kvs => obtain ⟨ws, o, p, q⟩ := h; exact ⟨_, p⟩
 | dcg kvs => obtain ⟨ws, o, p, q⟩ := h; exact ⟨_, p⟩
 | fnc i => cases t
 | ins c fs => obtain ⟨dx, ws, p, q⟩ := h; exact ⟨_, p⟩
 | exn c => exact ⟨_, h⟩
theorem StoRep.same (s : StoRep K cls rho st H) (e : Bp H H') : StoRep K cls rho st H' :=
 ⟨s.len, s.nd, fun n a c p q => (s.cells n a c p q).stay (Bp.keep e rho) (fun o h => e _ _ h)⟩
theorem EnvRep.mono {r1 r2 : List Addr} {H1 H2 : Hp} (k : Keep K r1 H1 r2 H2) {env : Env} {sg : St} (h : EnvRep K r1 H1 env sg) : EnvRep K r2 H2 env sg :=
 ⟨h.len, fun i d e => let ⟨v, p, q⟩ := h.val i d e; ⟨v, p, q.mono k⟩⟩
theorem EnvRep.set (h : EnvRep K rho H env sg) (i : Nat) (r : Rep K rho H d v) : EnvRep K rho H (env.set i (some d)) (sg.set i (some v)) := by
 refine ⟨by simp [h.len], fun j x e => ?_⟩
 rw [List.getElem?_set] at e ⊢
 have hl := h.len
 by_cases ij : i = j
 · subst ij
   rw [if_pos rfl] at e ⊢
   by_cases hi : i < env.length
   · rw [if_pos hi] at e
     rw [if_pos (by omega)]
     cases e
     exact ⟨v, rfl, r⟩
   · rw [if_neg hi] at e; cases e
 · rw [if_neg ij] at e ⊢
   exact h.val j x e
theorem StoRep.laid (s : StoRep K cls rho st H) (hp : H p = none) (hc : Fm K cls (rho ++ [p]) (upd H p o) p c) :
 Keep K rho H (rho ++ [p]) (upd H p o) ∧ StoRep K cls (rho ++ [p]) (st ++ [c]) (upd H p o) := by
 have e := Gh hp o
 have k : Keep K rho H (rho ++ [p]) (upd H p o) := ⟨⟨[p], rfl⟩, (Bp.keep e rho).tup, (Bp.keep (K := K) e rho).fz⟩
 have old : ∀ (n : Nat) (x : Cell), rho[n]? = some p → st[n]? = some x → trk x = true → False := fun n x h1 h2 ht => by
  obtain ⟨u, hu⟩ := (s.cells n p x h1 h2).some ht
  rw [hp] at hu; cases hu
 have at_lt : ∀ (n : Nat) (a : Addr) (x : Cell), (rho ++ [p])[n]? = some a → (st ++ [c])[n]? = some x → (n < rho.length ∧ rho[n]? = some a ∧ st[n]? = some x) ∨ (n = rho.length ∧ a = p ∧ x = c) := fun n a x h1 h2 => by
  by_cases hn : n < rho.length
  · rw [List.getElem?_append_left hn] at h1
    rw [List.getElem?_append_left (by rw [← s.len]; exact hn)] at h2
    exact .inl ⟨hn, h1, h2⟩
  · have hn' : n = rho.length := by
     have := (List.getElem?_eq_some_iff.mp h1).1
     simp at this; omega
    subst hn'
    rw [List.getElem?_append_right (Nat.le_refl _)] at h1
    rw [s.len, List.getElem?_append_right (Nat.le_refl _)] at h2
    simp at h1 h2
    exact .inr ⟨rfl, h1.symm, h2.symm⟩
 refine ⟨k, by simp [s.len], fun n m a x y h1 h2 h3 h4 t1 t2 => ?_, fun n a x h1 h2 => ?_⟩
 · rcases at_lt n a x h1 h3 with ⟨_, g1, g2⟩ | ⟨e1, e2, e3⟩
   · rcases at_lt m a y h2 h4 with ⟨_, g3, g4⟩ | ⟨f1, f2, f3⟩
     · exact s.nd n m a x y g1 g3 g2 g4 t1 t2
     · subst f2; exact (old n x g1 g2 t1).elim
   · rcases at_lt m a y h2 h4 with ⟨_, g3, g4⟩ | ⟨f1, f2, f3⟩
     · subst e2; exact (old m y g3 g4 t2).elim
     · omega
 · rcases at_lt n a x h1 h2 with ⟨_, g1, g2⟩ | ⟨e1, e2, e3⟩
   · exact (s.cells n a x g1 g2).stay k fun u hu => e _ _ hu
   · subst e2 e3; exact hc
theorem StoRep.alias (s : StoRep K cls rho st H) (ht : trk c = false) (hc : Fm K cls (rho ++ [p]) H p c) :
 Keep K rho H (rho ++ [p]) H ∧ StoRep K cls (rho ++ [p]) (st ++ [c]) H := by
 have k : Keep K rho H (rho ++ [p]) H := ⟨⟨[p], rfl⟩, fun _ _ h => h, fun _ _ _ h => h⟩
 have at_lt : ∀ (n : Nat) (a : Addr) (x : Cell), (rho ++ [p])[n]? = some a → (st ++ [c])[n]? = some x → (rho[n]? = some a ∧ st[n]? = some x) ∨ (a = p ∧ x = c) := fun n a x h1 h2 => by
  by_cases hn : n < rho.length
  · rw [List.getElem?_append_left hn] at h1
    rw [List.getElem?_append_left (by rw [← s.len]; exact hn)] at h2
    exact .inl ⟨h1, h2⟩
  · have hn' : n = rho.length := by
     have := (List.getElem?_eq_some_iff.mp h1).1
     simp at this; omega
    subst hn'
    rw [List.getElem?_append_right (Nat.le_refl _)] at h1
    rw [s.len, List.getElem?_append_right (Nat.le_refl _)] at h2
    simp at h1 h2
    exact .inr ⟨h1.symm, h2.symm⟩
 refine ⟨k, by simp [s.len], fun n m a x y h1 h2 h3 h4 t1 t2 => ?_, fun n a x h1 h2 => ?_⟩
 · rcases at_lt n a x h1 h3 with ⟨g1, g2⟩ | ⟨_, e3⟩
   · rcases at_lt m a y h2 h4 with ⟨g3, g4⟩ | ⟨_, f3⟩
     · exact s.nd n m a x y g1 g3 g2 g4 t1 t2
     · subst f3; rw [ht] at t2; cases t2
   · subst e3; rw [ht] at t1; cases t1
 · rcases at_lt n a x h1 h2 with ⟨g1, g2⟩ | ⟨e2, e3⟩
   · exact (s.cells n a x g1 g2).stay k fun _ hu => hu
   · subst e2 e3; exact hc
theorem StoRep.wroteC (s : StoRep K cls rho st H) (ha : rho[n]? = some a) (hl0 : st[n]? = some c0) (ht0 : trk c0 = true) (hH : H a = some o0) (hno : (∀ xs, o0 ≠ .tup xs) ∧ ∀ u x, o0 ≠ .frz u x) (hc : ∀ H2, H2 a = some o → Keep K rho H rho H2 → Fm K cls rho H2 a c1) :
 Keep K rho H rho (upd H a o) ∧ StoRep K cls rho (st.set n c1) (upd H a o) := by
 have k : Keep K rho H rho (upd H a o) := ⟨⟨[], by simp⟩, fun b xs h => by
  rcases h with h | h
  · rcases h with h | ⟨o, h⟩
    · exact .inl (.inl (by rw [Bf (jy h hH (fun z => hno.1 _ z.symm))]; exact h))
    · exact .inl (.inr ⟨o, by rw [Bf (jy h hH (fun z => hno.2 _ _ z.symm))]; exact h⟩)
  · exact .inr h, fun b u ws h => by rw [Bf (jy h hH (fun z => hno.2 _ _ z.symm))]; exact h⟩
 refine ⟨k, by simp [s.len], fun m1 m2 b c d h1 h2 h3 h4 t1 t2 => ?_, fun m b c h1 h2 => ?_⟩
 · have tr : ∀ (m : Nat) (c : Cell), (st.set n c1)[m]? = some c → trk c = true → rho[m]? = some b → ∃ c', st[m]? = some c' ∧ trk c' = true := fun m c h t hr => by
    rw [List.getElem?_set] at h
    by_cases e : n = m
    · subst e
      rw [ha] at hr; cases hr
      exact ⟨_, hl0, ht0⟩
    · rw [if_neg e] at h; exact ⟨c, h, t⟩
   obtain ⟨c1, e1, f1⟩ := tr m1 c h3 t1 h1
   obtain ⟨c2, e2, f2⟩ := tr m2 d h4 t2 h2
   exact s.nd m1 m2 b c1 c2 h1 h2 e1 e2 f1 f2
 rw [List.getElem?_set] at h2
 by_cases e : n = m
 · subst e
   rw [if_pos rfl] at h2
   rw [ha] at h1; cases h1
   by_cases hl : n < st.length
   · rw [if_pos hl] at h2; cases h2
     exact hc _ Cf k
   · rw [if_neg hl] at h2; cases h2
 · rw [if_neg e] at h2
   cases ht : trk c with
   | true =>
    have hne : b ≠ a := fun z => by
     subst z
     exact e (s.nd n m b _ c ha h1 hl0 h2 ht0 ht)
    exact (s.cells m b c h1 h2).stay k fun o ho => by rw [Bf hne]; exact ho
   | false =>
    cases c with
    | frz xs =>
     obtain ⟨us, p, q⟩ := s.cells m b (.frz xs) h1 h2
     refine ⟨us, ?_, q.mono k⟩
     rcases p with ⟨o, p⟩ | p
     · exact .inl ⟨o, by rw [Bf (jy p hH (fun z => hno.2 _ _ z.symm))]; exact p⟩
     · exact .inr p
    | fnc i => exact s.cells m b (.fnc i) h1 h2
    | _ => cases ht
theorem StoRep.wrote (s : StoRep K cls rho st H) (ha : rho[n]? = some a) (hl0 : st[n]? = some (.lst ds0)) (hH : H a = some (.lst vs)) (hd : RepL K rho H ds ws) :
 Keep K rho H rho (upd H a (.lst ws)) ∧ StoRep K cls rho (st.set n (.lst ds)) (upd H a (.lst ws)) :=
 s.wroteC ha hl0 rfl hH ⟨fun _ => nofun, fun _ _ => nofun⟩ fun H2 e k => ⟨ws, e, hd.mono k⟩
end
end DD
namespace DD
open PySem PySem.Spec L2
structure G where
 K : W.Frag
 cls : CW
 tab : Nat → Ty → Option Bool
 call : Or
 xk : XK
variable (g : G)
abbrev G.Rep := DD.Rep g.K
abbrev G.RepL := DD.RepL g.K
abbrev G.Keep := DD.Keep g.K
abbrev G.Sto := DD.StoRep g.K g.cls
abbrev G.Env := DD.EnvRep g.K
def RQ {α : Type} (r : Res α) (ok : α → Sto → Prop) (rho : List Addr) (H : Hp) : Prop := match r with
 | .ok a st => ok a st
 | .exc c st => ∀ H' rho', g.Keep rho H rho' H' → g.Sto rho' st H' → ∀ ch, (c = 2 → ch = none) → g.xk (.ref (g.cls c)) ch H'
 | .bad => False
def ar (rho : List Addr) (H : Hp) (Q : VK) (d : D) (st : Sto) : Prop := ∀ v H' rho', g.Keep rho H rho' H' → g.Sto rho' st H' → g.Rep rho' H' d v → Q v H'
def mh (rho : List Addr) (H : Hp) (Q : List V → Hp → Prop) (d : List D) (st : Sto) : Prop := ∀ v H' rho', g.Keep rho H rho' H' → g.Sto rho' st H' → g.RepL rho' H' d v → Q v H'
def dc (rho : List Addr) (H : Hp) (Q : Bool → Hp → Prop) (b : Bool) (st : Sto) : Prop := ∀ H' rho', g.Keep rho H rho' H' → g.Sto rho' st H' → Q b H'
def tE (e : E) : TE := fun sg H Q => ∃ rho st env, g.Sto rho st H ∧ g.Env rho H env sg ∧ RQ g (Ab g.tab g.call e env st) (ar g rho H Q) rho H
def tEs (e : Es) : TA := fun sg H Q => ∃ rho st env, g.Sto rho st H ∧ g.Env rho H env sg ∧ RQ g (Av g.tab g.call e env st) (mh g rho H Q) rho H
def tT (e : E) : TT := fun sg H Q => ∃ rho st env, g.Sto rho st H ∧ g.Env rho H env sg ∧ RQ g (aq g.tab g.call e env st) (dc g rho H Q) rho H
variable {g}
theorem RQ.mono {α : Type} {r : Res α} {ok ok' : α → Sto → Prop} {rho rho' : List Addr} {H H' : Hp} (k : g.Keep rho H rho' H') (h : RQ g r ok rho H) (ho : ∀ a st, ok a st → ok' a st) : RQ g r ok' rho' H' := by
 cases r with
 | ok a st => exact ho _ _ h
 | exc c st => exact fun H2 r2 k2 s2 => h H2 r2 (k.trans k2) s2
 | bad => exact h
theorem ar.mono {rho rho' : List Addr} {H H' : Hp} {Q : VK} (k : g.Keep rho H rho' H') {d : D} {st : Sto} (h : ar g rho H Q d st) : ar g rho' H' Q d st := fun v H2 r2 k2 => h v H2 r2 (k.trans k2)
theorem dc.mono {rho rho' : List Addr} {H H' : Hp} {Q : Bool → Hp → Prop} (k : g.Keep rho H rho' H') {d : Bool} {st : Sto} (h : dc g rho H Q d st) : dc g rho' H' Q d st := fun H2 r2 k2 => h H2 r2 (k.trans k2)
theorem step {β : Type} {e : E} {env : Env} {sg : St} {st : Sto} {rho : List Addr} {H : Hp} {k : D → Sto → Res β} {ok : β → Sto → Prop} {Q : VK} (s : g.Sto rho st H) (n : g.Env rho H env sg)
 (h : RQ g ((Ab g.tab g.call e env st).bind k) ok rho H)
 (hk : ∀ d st1 v H1 rho1, g.Keep rho H rho1 H1 → g.Sto rho1 st1 H1 → g.Env rho1 H1 env sg → g.Rep rho1 H1 d v → RQ g (k d st1) ok rho1 H1 → Q v H1) : tE g e sg H Q := by
 refine ⟨rho, st, env, s, n, ?_⟩
 revert h
 cases Ab g.tab g.call e env st with
 | ok d st1 => exact fun h v H1 r1 k1 s1 rp => hk d st1 v H1 r1 k1 s1 (n.mono k1) rp (RQ.mono k1 h fun _ _ x => x)
 | exc c st1 => exact fun h => h
 | bad => exact fun h => h
theorem Ej {β : Type} {e : Es} {env : Env} {sg : St} {st : Sto} {rho : List Addr} {H : Hp} {k : List D → Sto → Res β} {ok : β → Sto → Prop} {Q : List V → Hp → Prop} (s : g.Sto rho st H) (n : g.Env rho H env sg)
 (h : RQ g ((Av g.tab g.call e env st).bind k) ok rho H)
 (hk : ∀ d st1 v H1 rho1, g.Keep rho H rho1 H1 → g.Sto rho1 st1 H1 → g.Env rho1 H1 env sg → g.RepL rho1 H1 d v → RQ g (k d st1) ok rho1 H1 → Q v H1) : tEs g e sg H Q := by
 refine ⟨rho, st, env, s, n, ?_⟩
 revert h
 cases Av g.tab g.call e env st with
 | ok d st1 => exact fun h v H1 r1 k1 s1 rp => hk d st1 v H1 r1 k1 s1 (n.mono k1) rp (RQ.mono k1 h fun _ _ x => x)
 | exc c st1 => exact fun h => h
 | bad => exact fun h => h
theorem stepT {β : Type} {e : E} {env : Env} {sg : St} {st : Sto} {rho : List Addr} {H : Hp} {k : Bool → Sto → Res β} {ok : β → Sto → Prop} {Q : Bool → Hp → Prop} (s : g.Sto rho st H) (n : g.Env rho H env sg)
 (h : RQ g ((aq g.tab g.call e env st).bind k) ok rho H)
 (hk : ∀ d st1 H1 rho1, g.Keep rho H rho1 H1 → g.Sto rho1 st1 H1 → g.Env rho1 H1 env sg → RQ g (k d st1) ok rho1 H1 → Q d H1) : tT g e sg H Q := by
 refine ⟨rho, st, env, s, n, ?_⟩
 revert h
 cases aq g.tab g.call e env st with
 | ok d st1 => exact fun h H1 r1 k1 s1 => hk d st1 H1 r1 k1 s1 (n.mono k1) (RQ.mono k1 h fun _ _ x => x)
 | exc c st1 => exact fun h => h
 | bad => exact fun h => h
variable {X : Cx} {a b c : Expr} {a' b' c' : E} {pos : Pos}
def Sd (g : G) (X : Cx) (e : Expr) (e' : E) : Prop := PE X e (tE g e')
def SdT (g : G) (X : Cx) (e : Expr) (e' : E) : Prop := PT X e (tT g e')
def SdL (g : G) (X : Cx) (es : List Expr) (es' : Es) : Prop := PA X es (tEs g es')
theorem bc (h : PE X e t) (hi : ∀ sg H Q, t' sg H Q → t sg H Q) : PE X e t' := fun pins s sg H Q I q => h pins s sg H Q I (hi _ _ _ q)
theorem dw (h : PT X e t) (hi : ∀ sg H Q, t' sg H Q → t sg H Q) : PT X e t' := fun pins s sg H Q I q => h pins s sg H Q I (hi _ _ _ q)
theorem Qg (h : PA X e t) (hi : ∀ sg H Q, t' sg H Q → t sg H Q) : PA X e t' := fun pos pins s sg H Q I q => h pos pins s sg H Q I (hi _ _ _ q)
theorem Cs (i : Nat) (h : PE X (.Name x pos) (Lw i)) : Sd g X (.Name x pos) (.var i) := bc h fun sg H Q q => by
 obtain ⟨rho, st, env, s, n, q⟩ := q
 simp only [Ab] at q
 cases e : cz env i with
 | none => rw [e] at q; exact q.elim
 | some d =>
  rw [e] at q
  have e' : env[i]? = some (some d) := by
   unfold cz at e
   cases z : env[i]? with
   | none => rw [z] at e; cases e
   | some o => rw [z] at e; cases o with
    | none => cases e
    | some y => cases e; rfl
  obtain ⟨v, e1, r⟩ := n.val i d e'
  exact ⟨v, e1, q v H rho (.refl _ _) s r⟩
theorem kg (h : PE X e (tC v)) (hr : ∀ rho H, g.Rep rho H d v) : Sd g X e (.cst d) := bc h fun sg H Q q => by
 obtain ⟨rho, st, env, s, n, q⟩ := q
 exact q v H rho (.refl _ _) s (hr _ _)
theorem Af {i j pos} : Sd g X (.Constant (.int i) j pos) (.cst (.int i)) := kg Vk fun _ _ => by simp [Rep]
theorem Dr {i j pos} : Sd g X (.Constant (.bool i) j pos) (.cst (.bl i)) := kg Vl fun _ _ => by simp [Rep]
theorem Ds {j pos} : Sd g X (.Constant .none j pos) (.cst .non) := kg vm fun _ _ => by simp [Rep]
theorem ah {x j pos} : Sd g X (.Constant (.str x) j pos) (.cst (.str x)) := kg oy fun _ _ => by simp [Rep]
theorem ae : SdL g X [] .nil := Qg ji fun sg H Q q => by
 obtain ⟨rho, st, env, s, n, q⟩ := q
 exact q [] H rho (.refl _ _) s (by simp [RepL])
theorem aa {e : Expr} {es : List Expr} {e' : E} {es' : Es} (h : Sd g X e e') (t : SdL g X es es') (hs : starEach (e :: es) X.env = (false, eval e X.env) :: starEach es X.env := by rfl) : SdL g X (e :: es) (.cons e' es') :=
 Qg (Ge h t hs) fun sg H Q q => by
  obtain ⟨rho, st, env, s, n, q⟩ := q
  simp only [Av] at q
  refine step s n q fun d st1 v H1 r1 k1 s1 n1 rp q1 => ?_
  refine Ej s1 n1 q1 fun ds st2 vs H2 r2 k2 s2 n2 rps q2 => ?_
  have q2 : mh g rho H Q (d :: ds) st2 := q2
  exact q2 (v :: vs) H2 r2 (k1.trans k2) s2 (by simp only [RepL]; exact ⟨v, vs, rfl, rp.mono k2, rps⟩)
theorem Ai {es : List Expr} {es' : Es} {x1} (h : SdL g X es es') : Sd g X (.Tuple es x1 pos) (.tupE es') := bc (Xm h) fun sg H Q q => by
 obtain ⟨rho, st, env, s, n, q⟩ := q
 simp only [Ab] at q
 refine Ej s n q fun ds st1 vs H1 r1 k1 s1 n1 rps q1 => ?_
 have hl := rps.length
 by_cases z : ds.length ≤ sizeLine
 · rw [if_pos z] at q1
   refine ⟨by omega, fun p hp => ?_⟩
   have q1 : ar g rho H Q (.tup ds) st1 := q1
   have e := Gh hp (.tup vs)
   refine q1 (.ref p) _ r1 (k1.trans (Bp.keep e r1)) (s1.same e) ?_
   simp only [Rep]
   exact ⟨p, vs, rfl, SqT.of Cf, rps.mono (Bp.keep e r1)⟩
 · rw [if_neg z] at q1; exact q1.elim
theorem Br {es : List Expr} {es' : Es} (h : SdL g X es es') : Sd g X (.List es pos) (.lstE es') := bc (xn h) fun sg H Q q => by
 obtain ⟨rho, st, env, s, n, q⟩ := q
 simp only [Ab] at q
 refine Ej s n q fun ds st1 vs H1 r1 k1 s1 n1 rps q1 => ?_
 have hl := rps.length
 by_cases z : ds.length ≤ sizeLine
 · rw [if_pos z] at q1
   refine ⟨by omega, fun p hp => ?_⟩
   have q1 : ar g rho H Q (.loc st1.length) (st1 ++ [.lst ds]) := q1
   have e := Gh hp (.lst vs)
   have kk : g.Keep r1 H1 (r1 ++ [p]) (upd H1 p (.lst vs)) := ⟨⟨[p], rfl⟩, (Bp.keep e r1).tup, (Bp.keep (K := g.K) e r1).fz⟩
   obtain ⟨k2, s2⟩ := s1.laid hp (o := .lst vs) (c := .lst ds) ⟨vs, Cf, rps.mono kk⟩
   refine q1 (.ref p) _ _ (k1.trans k2) s2 ?_
   simp only [Rep]
   exact ⟨p, by rw [← s1.len]; simp, rfl⟩
 · rw [if_neg z] at q1; exact q1.elim
theorem two {o : V → V → Hp → VK → Prop} {k : D → D → Sto → Res D} (hop : ∀ x y u v st rho H Q, g.Sto rho st H → g.Rep rho H x u → g.Rep rho H y v → RQ g (k x y st) (ar g rho H Q) rho H → o u v H Q)
 {sg : St} {H : Hp} {Q : VK} {rho : List Addr} {st : Sto} {env : Env} (s : g.Sto rho st H) (n : g.Env rho H env sg)
 (q : RQ g ((Ab g.tab g.call a' env st).bind fun x st => (Ab g.tab g.call b' env st).bind fun y st => k x y st) (ar g rho H Q) rho H) : tOp o (tE g a') (tE g b') sg H Q := by
 refine step s n q fun x st1 u H1 r1 k1 s1 n1 rp q1 => ?_
 refine step s1 n1 q1 fun y st2 v H2 r2 k2 s2 n2 rp2 q2 => ?_
 exact hop x y u v st2 r2 H2 Q s2 (rp.mono k2) rp2 (RQ.mono (.refl _ _) q2 fun d st p => p.mono (k1.trans k2))
variable {g : G} {X : Cx} {a b c : Expr} {a' b' c' : E} {pos : Pos}
theorem qh (h : i.natAbs < BIG) : Builtin.Int.intBits i ≤ 4000 := by
 unfold Builtin.Int.intBits
 split
 · omega
 · rename_i h0
   have hz : i.natAbs ≠ 0 := by
    intro z; apply h0; simp [Int.natAbs_eq_zero.mp z]
   have : i.natAbs.log2 < 4000 := (Nat.log2_lt hz).mpr h
   omega
theorem gf.ok {i j : Int} (h : gf i j) : IntMulOk i j := by
 rcases h with h | h | h
 · exact .of_left (intBits_le_64 h.1 h.2)
 · exact .of_right (intBits_le_64 h.1 h.2)
 · exact IntMulOk.of_bits (Nat.le_trans (qh h.1) (by decide)) (Nat.le_trans (qh h.2) (by decide))
theorem Gf.py (h : Gf j) : Builtin.divisionGoesByPylong i j = false := by
 refine PyProof.noPylong_of_log2 ?_
 have hz : j.natAbs ≠ 0 := fun z => h.1 (Int.natAbs_eq_zero.mp z)
 have : j.natAbs.log2 < 4000 := (Nat.log2_lt hz).mpr h.2
 omega
theorem yu : OpR X (binaryOp .Mult) (rI (fun i j => gf i j) fun i j => .int (i * j)) := opI fun _ _ _ _ _ _ _ hc q => PyProof.Rows.mul_int q hc.ok
theorem Yu : OpR X (binaryOp .FloorDiv) (rI (fun _ j => Gf j) fun i j => .int (i.fdiv j)) := opI fun _ _ _ _ _ _ _ hc q => PyProof.Rows.floordiv_int hc.1 q (.inl hc.py)
theorem aw {rho : List Addr} {H : Hp} {i : Int} {v : V} : g.Rep rho H (.int i) v ↔ v = .int i := by simp [Rep]
theorem bg : g.Rep rho H (.bl i) v ↔ v = .bl i := by simp [Rep]
theorem Dc : g.Rep rho H .non v ↔ v = .non := by simp [Rep]
theorem Bs : g.Rep rho H (.str x) v ↔ v = .str x := by simp [Rep]
theorem bh : g.Rep rho H (.loc n) v ↔ ∃ a, rho[n]? = some a ∧ v = .ref a := by simp [Rep]
theorem bz : g.Rep rho H (.tup ds) v ↔ ∃ a vs, v = .ref a ∧ SqT g.K H a vs ∧ g.RepL rho H ds vs := by simp [Rep]
theorem gi {rho : List Addr} {st : Sto} {H : Hp} (s : g.Sto rho st H) {n : Nat} {ds : List D} (h : st[n]? = some (.lst ds)) : ∃ a vs, rho[n]? = some a ∧ H a = some (.lst vs) ∧ g.RepL rho H ds vs := by
 have hl : n < rho.length := by rw [s.len]; exact (List.getElem?_eq_some_iff.mp h).1
 obtain ⟨vs, p, q⟩ := s.cells n rho[n] (.lst ds) (List.getElem?_eq_getElem hl) h
 exact ⟨_, vs, List.getElem?_eq_getElem hl, p, q⟩
theorem Ek {rho : List Addr} {st : Sto} {H : Hp} (s : g.Sto rho st H) {n : Nat} {ds : List D} (h : av st n = some ds) : ∃ a vs, rho[n]? = some a ∧ SqL g.K H a vs ∧ g.RepL rho H ds vs := by
 unfold av at h
 split at h
 · rename_i xs e
   cases h
   obtain ⟨a, vs, p, q, r⟩ := gi s e
   exact ⟨a, vs, p, SqL.of q, r⟩
 · rename_i xs e
   cases h
   have hl : n < rho.length := by rw [s.len]; exact (List.getElem?_eq_some_iff.mp e).1
   obtain ⟨vs, p, q⟩ := s.cells n rho[n] (.frz ds) (List.getElem?_eq_getElem hl) e
   exact ⟨_, vs, List.getElem?_eq_getElem hl, p.elim (fun ⟨o, p⟩ => .inl (.inr ⟨o, p⟩)) .inr, q⟩
 · cases h
theorem Kg (s : g.Sto rho st H) (r : g.RepL rho H ds vs) (hp : H p = none) (q : ar g rho H Q (.loc st.length) (st ++ [.lst ds])) : Q (.ref p) (upd H p (.lst vs)) := by
 have e := Gh hp (.lst vs)
 have kk : g.Keep rho H (rho ++ [p]) (upd H p (.lst vs)) := ⟨⟨[p], rfl⟩, (Bp.keep e rho).tup, (Bp.keep (K := g.K) e rho).fz⟩
 obtain ⟨k2, s2⟩ := s.laid hp (o := .lst vs) (c := .lst ds) ⟨vs, Cf, r.mono kk⟩
 refine q (.ref p) _ _ k2 s2 (bh.mpr ⟨p, by rw [← s.len]; simp, rfl⟩)
theorem bq (ha : Sd g X a a') (hb : Sd g X b b') : Sd g X (.BinOp a .Add b pos) (.op .add a' b') := bc (il (OpR.or wq (OpR.or Yg Xb)) ha hb) fun sg H Q q => by
 obtain ⟨rho, st, env, s, n, q⟩ := q
 simp only [Ab] at q
 refine two (k := opD .add) ?_ s n q
 intro x y u v st rho H Q s rx ry q
 cases x with
 | int i =>
  cases y with
  | int j => exact .inl ⟨i, j, aw.mp rx, aw.mp ry, q _ H rho (.refl _ _) s (aw.mpr rfl)⟩
  | _ => exact q.elim
 | loc i =>
  cases y with
  | loc j =>
   simp only [opD] at q
   split at q
   · rename_i xs ys e1 e2
     split at q
     · rename_i z
       obtain ⟨p1, v1, a1, h1, r1⟩ := gi s e1
       obtain ⟨p2, v2, a2, h2, r2⟩ := gi s e2
       obtain ⟨b1, c1, d1⟩ := bh.mp rx
       obtain ⟨b2, c2, d2⟩ := bh.mp ry
       rw [a1] at c1; cases c1
       rw [a2] at c2; cases c2
       exact .inr (.inl ⟨p1, p2, v1, v2, d1, d2, h1, h2, by rw [← r1.length, ← r2.length]; exact z, fun p hp => Kg s (r1.append r2) hp q⟩)
     · exact q.elim
   · exact q.elim
  | _ => exact q.elim
 | str i =>
  cases y with
  | str j =>
   simp only [opD] at q
   split at q
   · rename_i z
     exact .inr (.inr ⟨i, j, Bs.mp rx, Bs.mp ry, z, q _ H rho (.refl _ _) s (Bs.mpr rfl)⟩)
   · exact q.elim
  | _ => exact q.elim
 | _ => exact q.elim
theorem Gi (ha : Sd g X a a') (hb : Sd g X b b') : Sd g X (.BinOp a .Sub b pos) (.op .sub a' b') := bc (il Wq ha hb) fun sg H Q q => by
 obtain ⟨rho, st, env, s, n, q⟩ := q
 simp only [Ab] at q
 refine two (k := opD .sub) ?_ s n q
 intro x y u v st rho H Q s rx ry q
 cases x with
 | int i =>
  cases y with
  | int j => exact ⟨i, j, aw.mp rx, aw.mp ry, q _ H rho (.refl _ _) s (aw.mpr rfl)⟩
  | _ => exact q.elim
 | _ => exact q.elim
theorem Mh (hK : X.K = g.K) (ha : Sd g X a a') (hb : Sd g X b b') : Sd g X (.BinOp a .Mult b pos) (.op .mul a' b') := bc (il (OpR.or yu (OpR.or Yh (OpR.or Ys Yr))) ha hb) fun sg H Q q => by
 obtain ⟨rho, st, env, s, n, q⟩ := q
 simp only [Ab] at q
 refine two (k := opD .mul) ?_ s n q
 intro x y u v st rho H Q s rx ry q
 cases x with
 | int i =>
  cases y with
  | int j =>
   simp only [opD] at q
   split at q
   · rename_i z
     exact .inl ⟨i, j, aw.mp rx, aw.mp ry, z, q _ H rho (.refl _ _) s (aw.mpr rfl)⟩
   · exact q.elim
  | _ => exact q.elim
 | loc i =>
  cases y with
  | int k =>
   simp only [opD] at q
   split at q
   · rename_i xs e1
     split at q
     · rename_i z
       obtain ⟨p1, v1, a1, h1, r1⟩ := gi s e1
       obtain ⟨b1, c1, d1⟩ := bh.mp rx
       rw [a1] at c1; cases c1
       exact .inr (.inl ⟨p1, k, v1, d1, aw.mp ry, h1, z.1, z.2.1, by rw [← r1.length]; exact z.2.2, fun p hp => Kg s (r1.rep _) hp q⟩)
     · exact q.elim
   · exact q.elim
  | _ => exact q.elim
 | str i =>
  cases y with
  | int k =>
   simp only [opD] at q
   split at q
   · rename_i z
     exact .inr (.inr (.inl ⟨i, k, Bs.mp rx, aw.mp ry, z.1, z.2.1, z.2.2.1, z.2.2.2, q _ H rho (.refl _ _) s (Bs.mpr rfl)⟩))
   · exact q.elim
  | _ => exact q.elim
 | tup ds =>
  cases y with
  | int k =>
   simp only [opD] at q
   split at q
   · rename_i z
     obtain ⟨a1, vs, d1, h1, r1⟩ := bz.mp rx
     have hl := r1.length
     refine .inr (.inr (.inr ⟨a1, k, vs, d1, aw.mp ry, by rw [hK]; exact h1, z.1, z.2.1, by rw [← hl]; exact z.2.2, fun e => ?_, fun p hp => ?_⟩))
     · refine q _ H rho (.refl _ _) s ?_
       have := r1.rep k.toNat
       rw [e] at this
       exact bz.mpr ⟨a1, vs, rfl, h1, this⟩
     · have e := Gh hp (.tup (List.replicate k.toNat vs).flatten)
       refine q (.ref p) _ rho (Bp.keep e rho) (s.same e) ?_
       exact bz.mpr ⟨p, _, rfl, SqT.of Cf, (r1.rep k.toNat).mono (Bp.keep e rho)⟩
   · exact q.elim
  | _ => exact q.elim
 | _ => exact q.elim
theorem Dw (ha : Sd g X a a') (hb : Sd g X b b') : Sd g X (.BinOp a .FloorDiv b pos) (.op .fdiv a' b') := bc (il Yu ha hb) fun sg H Q q => by
 obtain ⟨rho, st, env, s, n, q⟩ := q
 simp only [Ab] at q
 refine two (k := opD .fdiv) ?_ s n q
 intro x y u v st rho H Q s rx ry q
 cases x with
 | int i =>
  cases y with
  | int j =>
   simp only [opD] at q
   split at q
   · rename_i z
     exact ⟨i, j, aw.mp rx, aw.mp ry, z, q _ H rho (.refl _ _) s (aw.mpr rfl)⟩
   · exact q.elim
  | _ => exact q.elim
 | _ => exact q.elim
theorem bo (ha : Sd g X a a') (hb : Sd g X b b') : Sd g X (.BinOp a .Mod b pos) (.op .mod a' b') := bc (il Ws ha hb) fun sg H Q q => by
 obtain ⟨rho, st, env, s, n, q⟩ := q
 simp only [Ab] at q
 refine two (k := opD .mod) ?_ s n q
 intro x y u v st rho H Q s rx ry q
 cases x with
 | int i =>
  cases y with
  | int j =>
   simp only [opD] at q
   split at q
   · rename_i z
     exact ⟨i, j, aw.mp rx, aw.mp ry, z, q _ H rho (.refl _ _) s (aw.mpr rfl)⟩
   · exact q.elim
  | _ => exact q.elim
 | _ => exact q.elim
theorem Qh (ha : Sd g X a a') (hb : Sd g X b b') : Sd g X (.BinOp a .Pow b pos) (.op .pow a' b') := bc (il wt ha hb) fun sg H Q q => by
 obtain ⟨rho, st, env, s, n, q⟩ := q
 simp only [Ab] at q
 refine two (k := opD .pow) ?_ s n q
 intro x y u v st rho H Q s rx ry q
 cases x with
 | int i =>
  cases y with
  | int j =>
   simp only [opD] at q
   split at q
   · rename_i z
     exact ⟨i, j, aw.mp rx, aw.mp ry, z, q _ H rho (.refl _ _) s (aw.mpr rfl)⟩
   · exact q.elim
  | _ => exact q.elim
 | _ => exact q.elim
theorem qi (ha : Sd g X a a') : Sd g X (.UnaryOp .USub a pos) (.neg a') := bc (wo Wt ha) fun sg H Q q => by
 obtain ⟨rho, st, env, s, n, q⟩ := q
 simp only [Ab] at q
 refine step s n q fun x st1 u H1 r1 k1 s1 n1 rp q1 => ?_
 cases x with
 | int i => exact ⟨i, aw.mp rp, (show ar g rho H Q (.int (-i)) st1 from q1) _ H1 r1 k1 s1 (aw.mpr rfl)⟩
 | _ => exact q1.elim
end DD
namespace DD
open PySem PySem.Spec L2
open PyProof.Rows hiding St
def TrR (hp bs : Heap) (x : Addr) (c fl : Value) (R : Array Value → Prop) : Prop :=
 ∃ ox fs T oT ts, hp.get? x = some ox ∧ ox.cls = c ∧ R fs ∧ ox.data = .fields fs ∧ fs[1]? = some (.ref T) ∧ bs.get? T = none ∧ T ≠ x ∧ hp.get? T = some oT ∧ oT.data = .fields ts ∧ ts[3]? = some fl
def Bw (bs : Heap) (l : List PySem.Env) (x : Addr) (c fl : Value) (R : Array Value → Prop) (hp : Heap) : Prop := bs.StaysIn hp ∧ bs.get? x = none ∧ hp.FunFrames bs l ∧ TrR hp bs x c fl R
def Stb (R : Array Value → Prop) : Prop := ∀ fs v, R fs → R (fs.setIfInBounds 1 v)
section
variable {M : Model} {A : Around} {E : Value → Shared → Prop} {s : Shared} {bs : Heap} {env : PySem.Env} {outer l : List PySem.Env} {L x : Addr} {c fl : Value} {R : Array Value → Prop} {Q : Unit → Shared → Prop}
theorem Bw.there (z : Bw bs l x c fl R hp) : ∃ ob fs, hp.get? x = some ob ∧ ob.cls = c ∧ ob.data = .fields fs ∧ R fs := by
 obtain ⟨_, _, _, ob, fs, _, _, _, h1, h2, h3, h4, _⟩ := z
 exact ⟨ob, fs, h1, h2, h4, h3⟩
theorem fo (z : Bw bs l x c fl R s.heap) (fr : Option Addr) (k : ∀ h', Bw bs l x c (fr.elim Value.none fun f => rawInt f) R h' → s.heap.UpToSlots h' → Q () { s with heap := h' }) : wpAny M A (setFlight (.ref x) fr) Q E s := by
 obtain ⟨st, nx, ff, ox, fs, T, oT, ts, gx, cx, rx, dx, x1, nT, Tx, gT, dT, t3⟩ := z
 have l3 := (Array.getElem?_eq_some_iff.mp t3).1
 have oth : ∀ b, b ≠ T → (s.heap.update T (Obj.mapFields (·.setIfInBounds 3 (fr.elim Value.none fun f => rawInt f)))).get? b = s.heap.get? b := fun b n => Heap.get?_update_other _ _ (Ne.symm n)
 have nr : ∀ b o, s.heap.get? b = some o → (∀ ws, o.data ≠ .fields ws) → b ≠ T := fun b o g nf q => by
  rw [q, gT] at g; cases g; exact nf ts dT
 unfold setFlight
 refine wpAny_bind (wpAny_field gx dx x1 ?_)
 rw [if_pos (show (Value.ref T != Value.none) = true by simp)]
 refine wpAny_setField gT dT l3 (k _ ⟨fun b o g => ?_, nx, ff.of_keeps fun b o g nf => ⟨o, (oth b (nr b o g nf)).trans g, rfl⟩, ?_⟩ fun b o g nf => ⟨o.slots, (oth b (nr b o g nf)).trans g⟩)
 · exact (oth b fun q => by rw [q, nT] at g; cases g).trans (st b o g)
 · exact ⟨ox, fs, T, _, _, (oth x (Ne.symm Tx)).trans gx, cx, rx, dx, x1, nT, Tx, Heap.get?_update_self _ gT (Obj.isFreed_of_fields (Obj.data_mapFields dT _)), Obj.data_mapFields dT _, by simp [l3]⟩
theorem Qi (hR : Stb R) (fr : A.frames = some (env :: outer)) (ff : s.heap.FunFrames bs (env :: outer)) (ef : env.frame = some L) (gx : s.heap.get? x = some ox) (st : bs.StaysIn s.heap) (nx : bs.get? x = none) (dx : ox.data = .fields fs) (l1 : 1 < fs.size) (rx : R fs)
 (k : ∀ h', Bw bs (env :: outer) x ox.cls (rawInt L) R h' → s.heap.UpToSlots h' → Q () { s with heap := h' }) :
 wpAny M A (do let f ← frameOf env; let pl ← entryPlaceOf L nxt; let e ← EntryCells.newEntry hd f .none (rawInt L) .none pl; setField (.ref x) 1 e) Q E s := by
 have nin : x ∉ (env :: outer).filterMap (·.frame) := fun m => by
  obtain ⟨_, o, g, nf⟩ := ff.mem m
  rw [gx] at g; cases g; exact nf fs dx
 refine wpAny_bind (wpAny_frameOf_fun fr ff ef fun h1 sl1 => wpAny_bind (wpAny_entryPlaceOf fun pl hpl => ?_))
 unfold EntryCells.newEntry newFields
 refine wpAny_bind (wpAny_newObj_type ?_ (hpl.sizeOk5 _ _ _ _ _))
 generalize hnew : ({ cls := .type "traceback", dict := none, data := .fields ([hd, .ref L, .none, rawInt L, .none] ++ (if pl.isEmpty then List.replicate 6 Value.none else pl)).toArray } : Obj) = ob
 have gx1 : h1.get? x = some ox := (sl1.2.1 x nin).trans gx
 have st1 : bs.StaysIn h1 := fun b o g => (sl1.2.1 b fun m => by rw [(ff.mem m).1] at g; cases g).trans (st b o g)
 have gx2 := Heap.get?_push_of_some (h := h1) ob gx1
 have Tx : h1.objs.size ≠ x := Nat.ne_of_gt (Heap.lt_size gx1)
 have dx3 := Obj.data_mapFields dx (·.setIfInBounds 1 (Value.ref h1.objs.size))
 have gx3 := Heap.get?_update_self (Obj.mapFields (·.setIfInBounds 1 (Value.ref h1.objs.size))) gx2 (Obj.isFreed_of_fields dx3)
 have gT : (h1.push ob).get? h1.objs.size = some ob := Heap.get?_push_size h1 (by rw [← hnew]; rfl)
 have gT3 := (Heap.get?_update_other (h1.push ob) (Obj.mapFields (·.setIfInBounds 1 (Value.ref h1.objs.size))) (Ne.symm Tx)).trans gT
 have kp : ∀ b o, b ≠ x → h1.get? b = some o → ((h1.push ob).update x (Obj.mapFields (·.setIfInBounds 1 (Value.ref h1.objs.size)))).get? b = some o := fun b o n g => by
  rw [Heap.get?_update_other _ _ (Ne.symm n)]
  exact Heap.get?_push_of_some _ g
 have nr : ∀ b o, s.heap.get? b = some o → (∀ ws, o.data ≠ .fields ws) → b ≠ x := fun b o g nf q => by
  rw [q, gx] at g; cases g; exact nf fs dx
 refine wpAny_setField gx2 dx l1 (k _ ⟨fun b o g => kp b o (fun q => by rw [q, nx] at g; cases g) (st1 b o g), nx, ff.of_keeps fun b o g nf => ?_, ?_⟩ fun b o g nf => ?_)
 · obtain ⟨sl, g1⟩ := sl1.2.2 b o g
   exact ⟨_, kp b _ (nr b o g nf) g1, rfl⟩
 · refine ⟨_, _, h1.objs.size, ob, _, gx3, Obj.cls_mapFields _ _, hR _ _ rx, dx3, by simp [l1], st1.fresh, Tx, gT3, by rw [← hnew], ?_⟩
   rcases hpl with rfl | ⟨_, _, _, _, _, _, _, rfl⟩ <;> simp
 · obtain ⟨sl, g1⟩ := sl1.2.2 b o g
   exact ⟨sl, kp b _ (nr b o g nf) g1⟩
theorem qj (hR : Stb R) (fr : A.frames = some (env :: outer)) (ff : s.heap.FunFrames bs (env :: outer)) (ef : env.frame = some L) (gx : s.heap.get? x = some ox) (st : bs.StaysIn s.heap) (nx : bs.get? x = none) (dx : ox.data = .fields fs) (x1 : fs[1]? = some .none) (rx : R fs)
 (k : ∀ h', Bw bs (env :: outer) x ox.cls (rawInt L) R h' → s.heap.UpToSlots h' → Q () { s with heap := h' }) : wpAny M A (noteFrame (.ref x) env) Q E s := by
 unfold noteFrame
 simp only [ef]
 refine wpAny_bind (wpAny_field gx dx x1 ?_)
 rw [if_neg (by decide)]
 exact Qi hR fr ff ef gx st nx dx (Array.getElem?_eq_some_iff.mp x1).1 rx k
theorem mi (hR : Stb R) (fr : A.frames = some (env :: outer)) (ef : env.frame = some L) (z : Bw bs (env :: outer) x c .none R s.heap)
 (k : ∀ h', Bw bs (env :: outer) x c (rawInt L) R h' → s.heap.UpToSlots h' → Q () { s with heap := h' }) : wpAny M A (noteFrame (.ref x) env) Q E s := by
 obtain ⟨st, nx, ff, ox, fs, T, oT, ts, gx, cx, rx, dx, x1, nT, Tx, gT, dT, t3⟩ := z
 subst cx
 have l3 := (Array.getElem?_eq_some_iff.mp t3).1
 have oth : ∀ b, b ≠ T → (s.heap.update T (Obj.mapFields (·.setIfInBounds 3 Value.none))).get? b = s.heap.get? b := fun b n => Heap.get?_update_other _ _ (Ne.symm n)
 have nr : ∀ b o, s.heap.get? b = some o → (∀ ws, o.data ≠ .fields ws) → b ≠ T := fun b o g nf q => by
  rw [q, gT] at g; cases g; exact nf ts dT
 unfold noteFrame
 simp only [ef]
 refine wpAny_bind (wpAny_field gx dx x1 ?_)
 rw [if_pos (show (Value.ref T != Value.none) = true by simp)]
 refine wpAny_bind (wpAny_field gT dT t3 ?_)
 rw [if_neg (show ¬ ((Value.none == rawInt L) = true) by simp [rawInt])]
 refine wpAny_bind (wpAny_setField gT dT l3 ?_)
 refine Qi hR fr (ff.of_keeps fun b o g nf => ⟨o, (oth b (nr b o g nf)).trans g, rfl⟩) ef ((oth x (Ne.symm Tx)).trans gx) (fun b o g => (oth b fun q => by rw [q, nT] at g; cases g).trans (st b o g)) nx dx (Array.getElem?_eq_some_iff.mp x1).1 rx fun h' z' us => k h' z' fun b o g nf => ?_
 exact us b o ((oth b (nr b o g nf)).trans g) nf
theorem Yv (ef : env.frame = some L) (z : Bw bs l x c (rawInt L) R s.heap) (k : Q () s) : wpAny M A (noteFrame (.ref x) env) Q E s := by
 obtain ⟨_, _, _, ox, fs, T, oT, ts, gx, cx, rx, dx, x1, nT, Tx, gT, dT, t3⟩ := z
 unfold noteFrame
 simp only [ef]
 refine wpAny_bind (wpAny_field gx dx x1 ?_)
 rw [if_pos (show (Value.ref T != Value.none) = true by simp)]
 refine wpAny_bind (wpAny_field gT dT t3 ?_)
 rw [if_pos (show (rawInt L == rawInt L) = true by simp)]
 exact wpAny_pure k
theorem Bw.less (z : Bw bs (env :: outer) x c fl R hp) : Bw bs outer x c fl R hp := ⟨z.1, z.2.1, z.2.2.1.2.2, z.2.2.2⟩
theorem yw (hR : Stb R) (fr : A.frames = some (env :: outer)) (ff : s.heap.FunFrames bs (env :: outer)) (ef : env.frame = some L) (gx : s.heap.get? x = some ox) (st : bs.StaysIn s.heap) (nx : bs.get? x = none) (dx : ox.data = .fields fs) (x1 : fs[1]? = some .none) (rx : R fs)
 (k : ∀ h', Bw bs outer x ox.cls .none R h' → s.heap.UpToSlots h' → Q () { s with heap := h' }) : wpAny M A (leaving env (.ref x)) Q E s := by
 unfold leaving
 exact wpAny_bind (qj hR fr ff ef gx st nx dx x1 rx fun h1 z1 u1 => fo (s := { s with heap := h1 }) z1 none fun h2 z2 u2 => k h2 z2.less (u1.trans u2))
theorem Yw (hR : Stb R) (fr : A.frames = some (env :: outer)) (ef : env.frame = some L) (z : Bw bs (env :: outer) x c .none R s.heap)
 (k : ∀ h', Bw bs outer x c .none R h' → s.heap.UpToSlots h' → Q () { s with heap := h' }) : wpAny M A (leaving env (.ref x)) Q E s := by
 unfold leaving
 exact wpAny_bind (mi hR fr ef z fun h1 z1 u1 => fo (s := { s with heap := h1 }) z1 none fun h2 z2 u2 => k h2 z2.less (u1.trans u2))
theorem leave_held (ef : env.frame = some L) (z : Bw bs (env :: outer) x c (rawInt L) R s.heap)
 (k : ∀ h', Bw bs outer x c .none R h' → s.heap.UpToSlots h' → Q () { s with heap := h' }) : wpAny M A (leaving env (.ref x)) Q E s := by
 unfold leaving
 exact wpAny_bind (Yv ef z (fo z none fun h2 z2 u2 => k h2 z2.less u2))
end
structure Flew (P : Program) (w : World) (outer : List PySem.Env) (H : Hp) (s : Shared) (C a : Addr) (ch : Option Addr) (fl : Value) (H' : Hp) (B : Heap) (s' : Shared) : Prop where
 os : s'.os = s.os
 bare : AllBare s'.gens
 fly : Bw B outer a (.ref C) fl (fun fs => ch = none → fs[2]? = some .none) s'.heap
 keep : ∀ b o, s.heap.get? b = some o → H b = none → b ∉ frs outer → B.get? b = some o
 there : ∀ b o, s.heap.get? b = some o → b ∉ frs outer → ∃ o', B.get? b = some o'
 free : ∀ b o, s.heap.get? b = some o → H b = none → H' b = none
 slot : ∀ b o, s.heap.get? b = some o → H b = none → b ∈ frs outer → ∃ sl, s'.heap.get? b = some { o with slots := sl }
 tups : ∀ b xs, H b = some (.tup xs) → H' b = some (.tup xs)
 frzs : ∀ b o u, H b = some (.frz o u) → H' b = some (.frz o u)
 tbls : ∀ b ps, H b = some (.tbl ps) → ∃ more, H' b = some (.tbl (ps ++ more))
 hok : HOk P w H' B
def CXd (P : Program) (w : World) : CXT := fun outer H s E e s' => ∃ (C a : Addr) (ch : Option Addr) (H' : Hp) (B : Heap), e = .ref a ∧ Flew P w outer H s C a ch .none H' B s' ∧ E (.ref C) ch H'
def Mi (X : Cx) (E : XK) : Prop := ∀ (pins : List (Addr × Obj)) (sg : L2.St) (H : Hp) (s1 s2 : Shared) (C a : Addr) (ch : Option Addr) (H' : Hp) (B : Heap), L2.Inv X pins sg H s1 → Flew X.prog X.w X.stack H s1 C a ch (rawInt X.env.locals) H' B s2 → E (.ref C) ch H' → X.xe (.ref a) s2
theorem Jl : Stb fun fs => ch = none → fs[2]? = some .none := fun fs v h z => by
 rw [Array.getElem?_setIfInBounds_ne (by decide)]
 exact h z
theorem kh (h : env.frame = some L) (outer : List PySem.Env) : frs (env :: outer) = L :: frs outer := by
 unfold frs; rw [List.filterMap_cons, h]
section
variable {P : Program} {w : World} {K : W.Frag} {mg : Str → Option Value} {base : Heap} {N : List Str} {qual : Str} {scope : Scope} {f : Addr} {cd : Value} {A : Around} {outer : List PySem.Env} {s : Shared} {H : Hp} {E : XK}
theorem Qj (I : L2.Inv (Dm (CXd P w) P w K mg base N qual scope f cd A outer s H E) pins sg H1 s1)
 (F : Flew P w (envOfC qual scope s.heap.objs.size f cd :: outer) H1 s1 C a ch fv H' B s2) (q : E (.ref C) ch H')
 (go : ∀ {Q : Unit → Shared → Prop} {E' : Value → Shared → Prop}, (envOfC qual scope s.heap.objs.size f cd).frame = some s.heap.objs.size → (∀ h', Bw B outer a (.ref C) .none (fun fs => ch = none → fs[2]? = some .none) h' → s2.heap.UpToSlots h' → Q () { s2 with heap := h' }) → wpAny (model P w) (A.deeper (envOfC qual scope s.heap.objs.size f cd)) (leaving (envOfC qual scope s.heap.objs.size f cd) (.ref a)) Q E' s2) :
 (Dm (CXd P w) P w K mg base N qual scope f cd A outer s H E).xe (.ref a) s2 := by
 have hf : (envOfC qual scope s.heap.objs.size f cd).frame = some s.heap.objs.size := rfl
 have hstk : (Dm (CXd P w) P w K mg base N qual scope f cd A outer s H E).stack = envOfC qual scope s.heap.objs.size f cd :: outer := rfl
 have hfr := kh hf outer
 have hb : ∀ b o, s.heap.get? b = some o → b ∉ frs outer → b ∉ frs (envOfC qual scope s.heap.objs.size f cd :: outer) := fun b o e hn => by
  rw [hfr]
  intro m
  rcases List.mem_cons.mp m with z | z
  · have := Heap.lt_size e; rw [z] at this; exact Nat.lt_irrefl _ this
  · exact hn z
 have up : ∀ b o, s.heap.get? b = some o → ∃ o', s1.heap.get? b = some o' := fun b o e => I.base.there b o e (by intro z; cases z)
 show wpAny (model P w) (A.deeper (envOfC qual scope s.heap.objs.size f cd)) (leaving (envOfC qual scope s.heap.objs.size f cd) (.ref a)) (fun _ s'' => CXd P w outer H s E (.ref a) s'') (fun e' s'' => CXd P w outer H s E e' s'') s2
 refine go hf (fun h' fl us => ?_)
 refine ⟨C, a, ch, H', B, rfl, ⟨F.os.trans I.os, F.bare, fl, fun b o e n hn => ?_, fun b o e hn => ?_, fun b o e n => ?_, fun b o e n hm => ?_, fun b xs e => F.tups _ _ (I.base.tups _ _ e), fun b o u e => F.frzs _ _ _ (I.base.frzs _ _ _ e), fun b ps e => ?_, F.hok⟩, q⟩
 · exact F.keep b o (I.base.keep b o e n hn (by intro z; cases z)) (I.base.free b o e n (by intro z; cases z)) (hb b o e hn)
 · obtain ⟨o', e'⟩ := up b o e
   exact F.there b o' e' (hb b o e hn)
 · obtain ⟨o', e'⟩ := up b o e
   exact F.free b o' e' (I.base.free b o e n (by intro z; cases z))
 · obtain ⟨sl, e1⟩ := I.base.slot b o e n hm (by intro z; cases z)
   have n1 := I.base.free b o e n (by intro z; cases z)
   obtain ⟨sl2, e2⟩ := F.slot b _ e1 n1 (by rw [hfr]; exact List.mem_cons_of_mem _ hm)
   have nf : ∀ vs, o.data ≠ .fields vs := by
    obtain ⟨_, o2, ho2, hd2⟩ := I.ok.funs.mem hm
    have : s.heap.get? b = some o2 := ho2
    rw [e] at this; cases this; exact hd2
   obtain ⟨sl3, e3⟩ := us b _ e2 nf
   exact ⟨sl3, e3⟩
 · obtain ⟨m1, e1⟩ := I.base.tbls b ps e
   obtain ⟨m2, e2⟩ := F.tbls b _ e1
   exact ⟨m1 ++ m2, by rw [e2, Array.append_assoc]⟩
theorem Am : Passes (CXd P w) (Dm (CXd P w) P w K mg base N qual scope f cd A outer s H E) E := by
 intro pins sg H1 s1 e s2 I h
 obtain ⟨C, a, ch, H', B, rfl, F, q⟩ := h
 exact Qj I F q fun hf k => Yw Jl I.ok.frames hf F.fly k
theorem yx : Mi (Dm (CXd P w) P w K mg base N qual scope f cd A outer s H E) E := by
 intro pins sg H1 s1 s2 C a ch H' B I F q
 exact Qj I F q fun hf k => leave_held hf F.fly k
def Throws (X : Cx) (E : XK) : Prop := ∀ (pins : List (Addr × Obj)) (sg : L2.St) (H : Hp) (s1 s2 : Shared) (a C : Addr) (vs : List Value), L2.Inv X pins sg H s1 → s2.os = s1.os → AllBare s2.gens → Heap.MadeExcOf s1.heap s2.heap a (.ref C) vs → E (.ref C) none H → X.xe (.ref a) s2
theorem mj {l : List Addr} {b h : Heap} : ∀ {env : List PySem.Env}, h.FunFrames b env → (∀ x ∈ frs env, x ∈ l) → h.FunFrames (W.hideAll h l) env
 | [], _, _ => trivial
 | e :: r, ⟨hk, ⟨L, o, hf, hn, ho, hd⟩, hr⟩, hm => by
  have e1 := kh hf r
  refine ⟨hk, ⟨L, o, hf, W.hideAll_none _ (hm L (by rw [e1]; exact List.mem_cons_self)), ho, hd⟩, mj hr fun x hx => hm x (by rw [e1]; exact List.mem_cons_of_mem _ hx)⟩
theorem cg : Throws (Dm (CXd P w) P w K mg base N qual scope f cd A outer s H E) E := by
 intro pins sg H1 s1 s2 a C vs I hos hbare hx q
 have hf : (envOfC qual scope s.heap.objs.size f cd).frame = some s.heap.objs.size := rfl
 have hfr := kh hf outer
 have hstk : (Dm (CXd P w) P w K mg base N qual scope f cd A outer s H E).stack = envOfC qual scope s.heap.objs.size f cd :: outer := rfl
 have hb : ∀ b o, s.heap.get? b = some o → b ∉ frs outer → b ∉ frs (envOfC qual scope s.heap.objs.size f cd :: outer) := fun b o e hn => by
  rw [hfr]
  intro m
  rcases List.mem_cons.mp m with z | z
  · have := Heap.lt_size e; rw [z] at this; exact Nat.lt_irrefl _ this
  · exact hn z
 have hst : s1.heap.FunFrames base (envOfC qual scope s.heap.objs.size f cd :: outer) := I.stack
 have hfree : ∀ b ∈ frs (envOfC qual scope s.heap.objs.size f cd :: outer), H1 b = none := I.stkFree
 show wpAny (model P w) (A.deeper (envOfC qual scope s.heap.objs.size f cd)) (leaving (envOfC qual scope s.heap.objs.size f cd) (.ref a)) (fun _ s'' => CXd P w outer H s E (.ref a) s'') (fun e' s'' => CXd P w outer H s E e' s'') s2
 obtain ⟨t, gx, _, _⟩ := hx.there
 refine yw (bs := W.hideAll s1.heap (frs (envOfC qual scope s.heap.objs.size f cd :: outer))) (R := fun fs => (none : Option Addr) = none → fs[2]? = some .none) Jl I.ok.frames ((mj hst fun x h => h).of_keeps fun b o e _ => ⟨o, hx.keeps b o e, rfl⟩) hf gx (fun b o e => hx.keeps b o (W.of_hideAll _ e)) ?_ rfl rfl (fun _ => rfl) fun h' fl us => ?_
 · cases z : (W.hideAll s1.heap (frs (envOfC qual scope s.heap.objs.size f cd :: outer))).get? a with
   | none => rfl
   | some o => have := W.of_hideAll _ z; rw [hx.new] at this; cases this
 refine ⟨C, a, none, H1, _, rfl, ⟨hos.trans I.os, hbare, fl, fun b o e n hn => ?_, fun b o e hn => ?_, fun b o e n => I.base.free b o e n (by intro z; cases z), fun b o e n hm => ?_, I.base.tups, I.base.frzs, I.base.tbls, fun b o e => ?_⟩, q⟩
 · exact W.hideAll_get _ (I.base.keep b o e n hn (by intro z; cases z)) (hb b o e hn)
 · obtain ⟨o', e'⟩ := I.base.there b o e (by intro z; cases z)
   exact ⟨o', W.hideAll_get _ e' (hb b o e hn)⟩
 · obtain ⟨sl, e1⟩ := I.base.slot b o e n hm (by intro z; cases z)
   have nf : ∀ vs, o.data ≠ .fields vs := by
    obtain ⟨_, o2, ho2, hd2⟩ := I.ok.funs.mem hm
    have : s.heap.get? b = some o2 := ho2
    rw [e] at this; cases this; exact hd2
   obtain ⟨sl3, e3⟩ := us b _ (hx.keeps _ _ e1) nf
   exact ⟨sl3, e3⟩
 ·
  have nfr : ∀ c, (c = b ∨ H1 c = some (.own b)) → c ∉ frs (envOfC qual scope s.heap.objs.size f cd :: outer) := fun c hc hm => by
   have := hfree c hm
   rcases hc with rfl | hc
   · rw [this] at e; cases e
   · rw [this] at hc; cases hc
  exact (I.hok b o e).stay (fun c u hc g => W.hideAll_get _ g (nfr c hc)) (fun _ h => h) fun _ _ h => h
theorem qk (X : K.In h) (q : W.excIn K C bmB newId = true) :
 ∃ bm N nm q bs hdct sn sub ab col dd k0 k1 k2 k3 k5 mN, h.get? C = some (excClassObj nm q C N bs bm hdct sn sub ab col dd k0 k1 k2 k3 k5 newId) ∧ h.Ns N mN ∧ mN "__init__" = none ∧ OwnTail h bmB bm := by
 unfold W.excIn at q
 split at q
 · rename_i dd cd sl ho
   split at q
   · rename_i C' bm k0 k1 k2 k3 n k5 hm hs
     simp only [Bool.and_eq_true, beq_iff_eq, Bool.not_eq_true'] at q
     obtain ⟨⟨⟨⟨⟨rfl, rfl⟩, hdel⟩, ht⟩, hok⟩, hni⟩ := q
     obtain ⟨nm, bs, mro, ns, qn, hd, sn, sub, ab, col, del⟩ := cd
     dsimp only at hm hdel hok hni
     subst hm hdel
     have hsl : sl = #[k0, k1, k2, k3, some (.builtin n), k5] := by
      obtain ⟨l⟩ := sl
      simp only at hs
      rw [hs]
     subst hsl
     exact ⟨bm, ns, nm, qn, bs, hd, sn, sub, ab, col, dd, k0, k1, k2, k3, k5, _, X _ _ ho, .of_isNs (W.isNs_of_in X hok), W.nsMap_none_of_in X hok hni, W.tail_of_in X ht⟩
   · cases q
 · cases q
def Yx (E : XK) (C : Addr) : TS := fun _ _ H => E (.ref C) none H
theorem Yy {x txt : Str} {j : Nat} {np ap cpos pos : Pos} {bmB : List Value} (hth : Throws X E) (hh : X.A.handled = none) (hg : Gl X x) (hn : W.nsIn X.K mainGlobals x = some (some (.ref C))) (hm : X.mg x = some (.ref C))
 (hq : W.excIn X.K C [.type "ValueError", .type "Exception", .type "BaseException", .type "object"] "ValueError.__new__" = true) (hd : (x == ("__debug__" : Str)) = false := by decide) :
 PS X (.Raise (some (.Call (.Name x np) [.Constant (.str txt) j ap] [] cpos)) none pos) (Yx E C) := by
 intro pins s sg H D I h
 have KX := I.kIn
 have FB := PySem.F.excBase_ValueError
 have obj := qk I.mod.kin hq
 obtain ⟨tl, N, nm, q, bs, hdct, sn, sub, ab, col, dd, k0, k1, k2, k3, k5, mN, hC, hN, hni, T⟩ := obj
 refine wpAny_Raise_call_subU (C := C) (nm := nm) (q := q) (N := N) (bs := bs) (bm := tl) (hdct := hdct) (sn := sn) (sub := sub) (ab := ab) (col := col) (dd := dd) (k0 := k0) (k1 := k1) (k2 := k2) (k3 := k3) (k5 := k5)
  FB (by decide) FB (mN := mN) (T.hasType FB.hasBase) hh rfl hni (gc I hg hm ⟨rfl, ?_⟩ hd)
 have ha : PA X [.Constant (.str txt) j ap] (kc (tC (.str txt)) Jh) := Ge oy ji
 have := ha cpos pins s sg H (fun vs H1 => vs = [.str txt] ∧ H1 = H) I ⟨rfl, rfl⟩
 refine Calls.evalArgs_plain (thn this fun us s2 h2 => ?_)
 obtain ⟨vs, H2, I2, rv, e1, e2⟩ := h2
 subst e1 e2
 have hl : us.length = 1 := by rw [← rv.length]; rfl
 exact ⟨rfl, by rw [show ({ pos := us, kw := [] } : Args).pos.length = us.length from rfl, hl]; decide, I2.bk _ _ hC, hN.keeps I2.bk, T.keeps I2.bk, fun h' e hm => hth pins sg _ s2 { s2 with heap := h' } e C us I2 rfl I2.bare hm h⟩
end
abbrev Cx.hd (X : Cx) (a : Addr) : Cx := { X with A := X.A.mark (some (.ref a)), calm := false, xe := fun _ _ => False }
def Ip (X : Cx) : L2.St := List.replicate X.N.length none
theorem yz {X : Cx} {i : Nat} {v : V} (h : (Ip X)[i]? = some (some v)) : False := by
 unfold Ip at h
 rw [List.getElem?_replicate] at h
 split at h <;> cases h
theorem Yz (ok : X.Ok) (a : Addr) : (Cx.hd X a).Ok :=
 ⟨ok.mod, ok.kind, ok.glob, ok.blt, ok.above, ok.inj, ok.has, ok.cab, fun z => absurd z (by simp), ok.frames, ok.stk, ok.exf, ok.bs, ok.bsz, ok.noex, ok.exfs, ok.funs, ok.frf⟩
theorem Mj (x : bj P w H h a o) : ∃ u, h.get? a = some u := by
 cases o with
 | lst xs => obtain ⟨_, _, _, _, e⟩ := x; exact ⟨_, e⟩
 | tup xs => obtain ⟨_, _, _, o, e, _⟩ := x; exact ⟨_, e⟩
 | dK kvs => obtain ⟨_, _, _, _, o, _, _, e, _⟩ := x; exact ⟨_, e⟩
 | dT kvs => obtain ⟨_, _, _, _, o, _, _, e, _⟩ := x; exact ⟨_, e⟩
 | set S n => obtain ⟨o, _, _, _, e, _⟩ := x; exact ⟨_, e⟩
 | ins C dx fs => obtain ⟨_, _, _, e, _⟩ := x; exact ⟨_, e⟩
 | own y => exact x
 | xd fs => obtain ⟨_, ⟨_, _, _, e, _⟩, _⟩ := x; exact ⟨_, e⟩
 | rng lo hi => obtain ⟨_, _, _, e⟩ := x; exact ⟨_, e⟩
 | frz ob u => obtain ⟨e, _⟩ := x; exact ⟨_, e⟩
 | tbl ps => exact ⟨_, show h.get? a = some _ from x⟩
 | met f y => exact ⟨_, show h.get? a = some _ from x⟩
 | ext φ => obtain ⟨_, e, _⟩ := x; exact e
theorem landed {X : Cx} {pins : List (Addr × Obj)} {sg : L2.St} {H H' : Hp} {s1 s2 : Shared} {C a : Addr} {ch : Option Addr} {fv fv' : Value} {R : Array Value → Prop} {B h : Heap} (hfn : ∀ x, X.fn x = true) (hstk : X.stack = X.env :: X.outer) (hfr : X.env.frame = some X.env.locals) (hex : X.ex = [])
 (I : L2.Inv X pins sg H s1) (F : Flew X.prog X.w X.stack H s1 C a ch fv H' B s2) (hB : Bw B X.stack a (.ref C) fv' R h) (us : s2.heap.UpToSlots h) :
 L2.Inv (Cx.hd X a) pins (Ip X) (upd H' a (.ext (fj a (.ref C)))) { s2 with heap := h } := by
 have hfrs : frs X.stack = X.env.locals :: X.fs := by rw [hstk]; exact kh hfr X.outer
 have st : ∀ b o, B.get? b = some o → h.get? b = some o := hB.1
 have aB : B.get? a = none := hB.2.1
 obtain ⟨oe, ws, hoe, hoec, hoed, hoe0⟩ := hB.there
 have hnotA : ∀ b o, B.get? b = some o → b ≠ a := fun b o e z => by rw [z, aB] at e; cases e
 have nex : ∀ b : Addr, b ∉ X.ex := fun b z => by rw [hex] at z; cases z
 have old : ∀ b o, X.s₀.heap.get? b = some o → b ∉ X.fs → b ∉ frs X.stack := fun b o e hn hm => by
  rw [hfrs] at hm
  rcases List.mem_cons.mp hm with z | z
  · have := Heap.lt_size e
    rw [z] at this
    exact Nat.lt_irrefl _ (Nat.lt_of_lt_of_le this I.ok.above)
  · exact hn z
 obtain ⟨m, hm, _⟩ := I.loc
 obtain ⟨oL, esL, epL, hoL, hdL, hrL⟩ := hm
 have memL : X.env.locals ∈ frs X.stack := by rw [hfrs]; exact List.mem_cons_self
 obtain ⟨slL, e2L⟩ := F.slot _ _ hoL I.free memL
 obtain ⟨sl3, e3L⟩ := us _ _ e2L (fun vs q => by simp only [hdL] at q; cases q)
 have neL : X.env.locals ≠ a := fun z => by
  rw [z, hoe] at e3L
  cases e3L
  have hz : oL.data = .fields ws := hoed
  rw [hdL] at hz
  cases hz
 have frameNe : ∀ b o, s1.heap.get? b = some o → H b = none → b ∈ frs X.stack → (∀ vs, o.data ≠ .fields vs) → ∃ sl, h.get? b = some { o with slots := sl } := fun b o e n hm nf => by
  obtain ⟨sl, e1⟩ := F.slot b o e n hm
  obtain ⟨sl', e2⟩ := us b _ e1 nf
  exact ⟨sl', e2⟩
 have hcell : ∀ x c, X.env.cells.lookup x = some c → ∃ v, B.IsCell c v := fun x c e => by
  obtain ⟨v, o, ho, hd⟩ := I.cell x c e
  have hnot : c ∉ frs X.stack := fun hm => by
   rw [hfrs] at hm
   rcases List.mem_cons.mp hm with z | z
   · exact I.cne x c e z
   · have h1 := I.ok.cab x c (hfn x) e
     obtain ⟨_, o2, ho2, _⟩ := I.ok.funs.mem z
     exact absurd (Nat.lt_of_lt_of_le (Heap.lt_size ho2) h1) (Nat.lt_irrefl _)
  exact ⟨v, o, F.keep c o ho (I.freeC x c e) hnot, hd⟩
 refine ⟨Yz I.ok a, F.os.trans I.os, F.bare, ⟨fun b o e n hn hx => ?_, fun b o e n hm hx => ?_, fun b o e n hx => ?_, fun b o e hx => ?_, fun b xs e => ?_, fun b o u e => ?_, fun b ps e => ?_⟩, ⟨m, ⟨_, esL, epL, e3L, hdL, hrL⟩, fun i x v _ e2 _ => (yz e2).elim⟩, fun x c e => ?_, ?_, fun x c e => ?_, fun p hp => ?_, fun b o e => ?_, by unfold Ip; rw [List.length_replicate]⟩
 · exact st _ _ (F.keep b o (I.base.keep b o e n hn (nex b)) (I.base.free b o e n (nex b)) (old b o e hn))
 · obtain ⟨sl, e1⟩ := I.base.slot b o e n hm (nex b)
   have nf : ∀ vs, o.data ≠ .fields vs := by
    obtain ⟨_, o2, ho2, hd2⟩ := I.ok.funs.mem hm
    rw [e] at ho2; cases ho2; exact hd2
   obtain ⟨sl', e4⟩ := frameNe b _ e1 (I.base.free b o e n (nex b)) (by rw [hfrs]; exact List.mem_cons_of_mem _ hm) nf
   exact ⟨sl', e4⟩
 · by_cases hm : b ∈ X.fs
   · obtain ⟨sl, e1⟩ := I.base.slot b o e n hm (nex b)
     have nf : ∀ vs, o.data ≠ .fields vs := by
      obtain ⟨_, o2, ho2, hd2⟩ := I.ok.funs.mem hm
      rw [e] at ho2; cases ho2; exact hd2
     obtain ⟨sl', e4⟩ := frameNe b _ e1 (I.base.free b o e n (nex b)) (by rw [hfrs]; exact List.mem_cons_of_mem _ hm) nf
     have nea : b ≠ a := fun z => by
      rw [z, hoe] at e4; cases e4
      exact nf _ hoed
     rw [Bf nea]
     exact F.free b _ e1 (I.base.free b o e n (nex b))
   · have e1 := I.base.keep b o e n hm (nex b)
     have n1 := I.base.free b o e n (nex b)
     rw [Bf (hnotA b o (F.keep b o e1 n1 (old b o e hm)))]
     exact F.free b o e1 n1
 · by_cases hm : b ∈ X.fs
   · obtain ⟨_, o2, ho2, hd2⟩ := I.ok.funs.mem hm
     have nH := I.ok.frf b hm
     obtain ⟨sl, e1⟩ := I.base.slot b o e nH hm (nex b)
     rw [e] at ho2; cases ho2
     obtain ⟨sl', e4⟩ := frameNe b _ e1 (I.base.free b o e nH (nex b)) (by rw [hfrs]; exact List.mem_cons_of_mem _ hm) hd2
     exact ⟨_, e4⟩
   · obtain ⟨o1, e1⟩ := I.base.there b o e (nex b)
     obtain ⟨o2, e2⟩ := F.there b o1 e1 (old b o e hm)
     exact ⟨o2, st _ _ e2⟩
 · have e1 := F.tups _ _ (I.base.tups _ _ e)
   obtain ⟨_, _, _, o, ho, _⟩ := F.hok b _ e1
   rw [Bf (hnotA b o ho)]; exact e1
 · have e1 := F.frzs _ _ _ (I.base.frzs _ _ _ e)
   obtain ⟨ho, _⟩ := F.hok b _ e1
   rw [Bf (hnotA b o ho)]; exact e1
 · obtain ⟨m1, e1⟩ := I.base.tbls b ps e
   obtain ⟨m2, e2⟩ := F.tbls b _ e1
   have ho : B.get? b = some _ := F.hok b _ e2
   exact ⟨m1 ++ m2, by rw [Bf (hnotA b _ ho), e2, Array.append_assoc]⟩
 · obtain ⟨v, o, ho, hd⟩ := hcell x c e
   exact ⟨v, o, st _ _ ho, hd⟩
 · show upd H' a _ X.env.locals = none
   rw [Bf neL]
   exact F.free _ _ hoL I.free
 · obtain ⟨v, o, ho, hd⟩ := hcell x c e
   rw [Bf (hnotA c o ho)]
   obtain ⟨v1, o1, ho1, _⟩ := I.cell x c e
   exact F.free c o1 ho1 (I.freeC x c e)
 · obtain ⟨p1, p2, p3, p4, p5⟩ := I.pin p hp
   have hnot : p.1 ∉ frs X.stack := fun hm => by
    rw [hfrs] at hm
    rcases List.mem_cons.mp hm with z | z
    · exact p3 z
    · exact p4 z
   have e1 := F.keep p.1 p.2 p1 p2 hnot
   refine ⟨st _ _ e1, ?_, p3, p4, p5⟩
   rw [Bf (hnotA _ _ e1)]
   exact F.free _ _ p1 p2
 · by_cases hb : b = a
   · subst hb
     rw [Cf] at e; cases e
     refine ⟨⟨oe, ws, hoe, hoec, hoed⟩, ⟨oe, hoe⟩, fun h1 h2 ⟨o, vs, e1, e2, e3⟩ k => ⟨o, vs, k o e1, e2, e3⟩⟩
   · rw [Bf hb] at e
     have hne : ∀ c y, H' c = some y → c ≠ a := fun c y ec z => by
      subst z
      obtain ⟨oc, hc⟩ := Mj (F.hok c y ec)
      rw [aB] at hc; cases hc
     exact (F.hok b o e).stay (fun c u _ g => st c u g) (fun c z => by rw [Bf (hne c _ z)]; exact z) fun c xs z => by rw [Bf (hne c _ z)]; exact z
theorem gone (ok : X.Ok) (hN : X.N.Nodup) (hi : X.N[i]? = some n) (hex : X.ex = []) (I : L2.Inv (Cx.hd X a) pins sg H s)
 (hm3 : ∀ (i : Nat) (x : Str) (v : V), X.N[i]? = some x → sg[i]? = some (some v) → Vis X.env.scope x → ∃ u, RelV v u ∧ Look X.env s.heap m3 x u) (sb : Heap.SameBut X.env.locals s.heap h') (hn : h'.Ns X.env.locals (fun x => if x = n then w else m3 x)) : L2.Inv X pins (sg.set i none) H { s with heap := h', toks := tk } := by
 have oth : ∀ b o, b ≠ X.env.locals → s.heap.get? b = some o → h'.get? b = some o := fun b o n e => (sb.2 b n).trans e
 have oldn : ∀ b o, X.s₀.heap.get? b = some o → b ≠ X.env.locals := fun b o e z => by
  have := Heap.lt_size e
  rw [z] at this
  exact Nat.lt_irrefl _ (Nat.lt_of_lt_of_le this ok.above)
 have fL : H X.env.locals = none := I.free
 refine ⟨ok, I.os, I.bare, ⟨fun b o e n hn hx => oth _ _ (oldn b o e) (I.base.keep b o e n hn hx), fun b o e n hm hx => ?_, I.base.free, fun b o e hx => ?_, I.base.tups, I.base.frzs, I.base.tbls⟩, ⟨_, hn, fun j x v e1 e2 e3 => ?_⟩,
  fun x c e => ?_, I.free, I.freeC, fun p hp => ?_, fun b o e => ?_, by rw [List.length_set]; exact I.len⟩
 · obtain ⟨sl, e1⟩ := I.base.slot b o e n hm hx
   exact ⟨sl, oth _ _ (oldn b o e) e1⟩
 · obtain ⟨o', e1⟩ := I.base.there b o e hx
   exact ⟨o', oth _ _ (oldn b o e) e1⟩
 · have hji : j ≠ i := fun z => by
    subst z
    rw [List.getElem?_set] at e2
    simp at e2
   rw [List.getElem?_set_ne (Ne.symm hji)] at e2
   obtain ⟨u, r, k⟩ := hm3 j x v e1 e2 e3
   refine ⟨u, r, ?_⟩
   have hxn : x ≠ n := fun z => by
    subst z
    have := (List.getElem?_inj (List.getElem?_eq_some_iff.mp e1).1 hN).mp (e1.trans hi.symm)
    exact hji this
   rcases k with ⟨k1, k2⟩ | ⟨k1, c, k2, k3⟩
   · exact .inl ⟨k1, by simp only [if_neg hxn]; exact k2⟩
   · exact .inr ⟨k1, c, k2, k3.sameBut sb (I.cne x c k2)⟩
 · obtain ⟨v, z⟩ := I.cell x c e
   exact ⟨v, z.sameBut sb (I.cne x c e)⟩
 · obtain ⟨p1, p2, p3, p4, p5⟩ := I.pin p hp
   exact ⟨oth _ _ p3 p1, p2, p3, p4, p5⟩
 · refine (I.hok b o e).stay (fun c u hc g => oth c u ?_ g) (fun _ h => h) fun _ _ h => h
   intro z
   rcases hc with rfl | hc
   · rw [z, fL] at e; cases e
   · rw [z, fL] at hc; cases hc
def za (K : W.Frag) (Cx' : Addr) (n i : Nat) (ts : TS) (D : Ends) (C : Addr) (H : Hp) : Prop := W.exmOne K (.ref C) (.ref Cx') = some true ∧
 ∀ a, H a = none → ts { nx := fun sg2 H2 => D.nx (sg2.set i none) H2, rt := D.rt } ((List.replicate n none).set i (some (.ref a))) (upd H a (.ext (fj a (.ref C))))
abbrev Cx.tr (X : Cx) (pn : List (Addr × Obj)) (xe : Value → Shared → Prop) : Cx := { X with pn := pn, xe := xe }
theorem Qk (I : L2.Inv X pins sg H s) : L2.Inv (Cx.tr X (X.pn ++ pins) xe) [] sg H s :=
 ⟨⟨I.ok.mod, I.ok.kind, I.ok.glob, I.ok.blt, I.ok.above, I.ok.inj, I.ok.has, I.ok.cab, I.ok.hd, I.ok.frames, I.ok.stk, I.ok.exf, I.ok.bs, I.ok.bsz, I.ok.noex, I.ok.exfs, I.ok.funs, I.ok.frf⟩, I.os, I.bare, I.base, I.loc, I.cell, I.free, I.freeC, fun p hp => I.pin p (by rw [List.append_nil] at hp; exact hp), I.hok, I.len⟩
theorem El (I : L2.Inv (Cx.tr X (X.pn ++ pins) xe) pins' sg H s) : L2.Inv X pins sg H s :=
 ⟨⟨I.ok.mod, I.ok.kind, I.ok.glob, I.ok.blt, I.ok.above, I.ok.inj, I.ok.has, I.ok.cab, I.ok.hd, I.ok.frames, I.ok.stk, I.ok.exf, I.ok.bs, I.ok.bsz, I.ok.noex, I.ok.exfs, I.ok.funs, I.ok.frf⟩, I.os, I.bare, I.base, I.loc, I.cell, I.free, I.freeC, fun p hp => I.pin p (List.mem_append_left _ hp), I.hok, I.len⟩
theorem ml (e : h.get? a = some o) (hc : o.cls = c) : W.Looks M h (typeOf (.ref a)) c := by
 subst hc
 exact (W.Looks.ld e).andThen .now
theorem Za {X : Cx} {body suite : List Stmt} {b₀ : Stmt} {x n : Str} {np hp pos : Pos} {i : Nat} {Cx' : Addr} {tb : XK → TS} {ts : TS} (hfn : ∀ y, X.fn y = true) (hstk : X.stack = X.env :: X.outer) (hfr : X.env.frame = some X.env.locals) (hex : X.ex = [])
 (hN : X.N.Nodup) (hi : X.N[i]? = some n) (hl : X.env.scope.names.lookup n = some .local) (hg : Gl X x) (hm : X.mg x = some (.ref Cx'))
 (hb : ∀ (pn : List (Addr × Obj)) (E0 : XK) (xe0 : Value → Shared → Prop), PassesOwn (model X.prog X.w) X.A X.env xe0 → Passes (CXd X.prog X.w) (Cx.tr X pn xe0) E0 → PSs (Cx.tr X pn xe0) body (tb E0)) (hs : ∀ a, PSs (Cx.hd X a) (b₀ :: suite) ts) (hd : (x == ("__debug__" : Str)) = false := by decide) :
 PS X (.Try body [.ExceptHandler (some (.Name x np)) (some n) (b₀ :: suite) hp] [] [] pos) (fun D sg H => sg.length = X.N.length → ∃ E0 : XK, (∀ C ch H', E0 (.ref C) ch H' → za X.K Cx' X.N.length i ts D C H') ∧ tb E0 D sg H) := by
 intro pins s sg H D I h
 obtain ⟨E0, hE, h⟩ := h I.len
 refine wpAny_Try_except ?_
 have hkl : X.env.kindOf n = some .local := hl
 have hpk : (X.env.scope.kind == .class || (X.env.scope.kind == .module && X.env.locals != X.env.globals)) = false := by rw [I.ok.kind]; rfl
 refine wpAny_mono (hb (X.pn ++ pins) E0 _ PassesOwn.looking (fun pins' sg1 H1 e1 e s2 I1 h1 => ?_) [] s sg H D (Qk I) h) (fun f s1 q => ?_) (fun e s1 q => q)
 ·
  obtain ⟨C, a, ch, H', B, rfl, F, q⟩ := h1
  have I1 : L2.Inv X pins sg1 H1 e1 := El I1
  obtain ⟨ht, hsu⟩ := hE C ch H' q
  refine mi Jl (by rw [I.ok.frames, hstk]) hfr (by rw [← hstk]; exact F.fly) fun h4 held4 us4 => ?_
  refine fo (s := { s2 with heap := h4 }) held4 none fun h5 fly5 us5 => ?_
  have J5 := landed hfn hstk hfr hex I1 F (by rw [hstk]; exact fly5) (us4.trans us5)
  obtain ⟨ob, _, hob, hobc, _⟩ := fly5.there
  have hHa : H' a = none := by
   cases z : H' a with
   | none => rfl
   | some y =>
    obtain ⟨oc, hc⟩ := Mj (F.hok a y z)
    have := fly5.2.1
    rw [hc] at this; cases this
  refine wpAny_handleBy_cons (codeAny_handlers_test (gc (X := Cx.hd X a) J5 hg hm ?_ hd)) (by intro q; cases q)
  refine W.exm_one (h := h5) J5.kIn (ml hob hobc) ht _ _ _ _ (fun _ _ e => e) ?_
  rw [if_pos rfl]
  refine codeAny_handlers_suite_as ?_
  refine fo (s := { s2 with heap := h5 }) fly5 none fun h6 fly6 us6 => ?_
  have J6 := landed hfn hstk hfr hex I1 F (by rw [hstk]; exact fly6) ((us4.trans us5).trans us6)
  refine Ih (X := Cx.hd X a) (v := .ref a) J6 hN hi (.inl hl) rfl (fun s7 J7 => ?_) (.inl (hfn n))
  refine wpAny_mono (hs a pins s7 _ _ _ J7 (hsu a hHa)) (fun f s3 q3 => ?_) (fun _ _ z => z.elim)
  cases f with
  | next =>
   obtain ⟨sg3, H3, I3, q3⟩ := q3
   obtain ⟨m3, hn3, hm3⟩ := I3.loc
   exact wpAny_nameGoes_keeps hkl hn3 hpk fun h' v hn' sb => ⟨_, H3, gone I.ok hN hi hex I3 hm3 sb hn', q3⟩
  | ret v =>
   obtain ⟨x3, sg3, H3, I3, r3, q3⟩ := q3
   obtain ⟨m3, hn3, hm3⟩ := I3.loc
   exact wpAny_nameGoes_keeps hkl hn3 hpk fun h' v hn' sb => ⟨x3, _, H3, gone I.ok hN hi hex I3 hm3 sb hn', r3, q3⟩
  | brk => obtain ⟨_, _, _, z⟩ := q3; exact z.elim
  | cont => obtain ⟨_, _, _, z⟩ := q3; exact z.elim
 · cases f with
   | next =>
    obtain ⟨sg1, H1, I1, q⟩ := q
    exact wpAny_execs_nil ⟨sg1, H1, El I1, q⟩
   | brk => obtain ⟨sg1, H1, I1, q⟩ := q; exact ⟨sg1, H1, El I1, q⟩
   | cont => obtain ⟨sg1, H1, I1, q⟩ := q; exact ⟨sg1, H1, El I1, q⟩
   | ret v => obtain ⟨x1, sg1, H1, I1, r, q⟩ := q; exact ⟨x1, sg1, H1, El I1, r, q⟩
theorem zb : entryFor table "proto.unchain" = some Builtin.«proto.unchain» := entryFor_of_tree (by kernel_rfl)
theorem Zb {prog : Program} {w : World} {A : Around} {E : Value → Shared → Prop} {s : Shared} {Q : Value → Shared → Prop} {x : Value} {a : Addr} {oa : Obj} {fa : Array Value} (ga : s.heap.get? a = some oa) (da : oa.data = .fields fa) (a2 : fa[2]? = some .none) (k : Q .none s) :
 wpAny (model prog w) A (runValue (.builtin "proto.unchain" ⟨[x, .ref a, .ref a, .bool false], []⟩)) Q E s := by
 refine wpAny_runValue (codeAny_builtin zb ?_)
 unfold Builtin.«proto.unchain»
 refine wpAny_bind (wpAny_field ga da a2 ?_)
 rw [if_pos (by decide)]
 exact wpAny_pure k
section
variable {prog : Program} {w : World} {A : Around} {E : Value → Shared → Prop} {env : PySem.Env} {nm q : Str} {C N : Addr} {bs bm : List Value} {hdct : Bool} {sn : List Str} {sub : List Value} {ab : Bool} {col : Option Bool} {dd : Option Addr} {k0 k1 k2 k3 k5 : Option Value} {newId : String}
theorem zc (hbase : bm.contains (.type "BaseException") = true) (hh : A.handled = some (.ref a)) (hc : ∀ {Q : Value → Shared → Prop} {E : Value → Shared → Prop} {s : Shared}, Q .none s → wpAny (model prog w) A cau Q E s)
 (h : wpAny (model prog w) A x (fun v s1 => ∃ e t oa fa, v = .ref e ∧ e ≠ a ∧ s1.heap.get? C = some (excClassObj nm q C N bs bm hdct sn sub ab col dd k0 k1 k2 k3 k5 newId) ∧
  s1.heap.get? e = some { cls := .ref C, data := .fields #[.ref t, .none, .none, .none, .bool false, .none] } ∧ s1.heap.get? a = some oa ∧ oa.data = .fields fa ∧ fa[2]? = some .none ∧
  ∀ h' oe fe, (∀ b, b ≠ e → h'.get? b = s1.heap.get? b) → h'.get? e = some oe → oe.cls = .ref C → oe.data = .fields fe → fe[1]? = some .none → E (.ref e) { s1 with heap := h' }) E s) :
 wpAny (model prog w) A (raiseStmt env (some x) (some cau)) Q E s := by
 have hcB : (Value.ref C :: bm).contains (.type "BaseException") = true := by rw [List.contains_cons, hbase, Bool.or_true]
 unfold raiseStmt
 refine wpAny_bind (wpAny_mono h (fun v s1 z => ?_) fun _ _ z => z)
 obtain ⟨e, t, oa, fa, rfl, ne, hC, he, ga, da, a2, hE⟩ := z
 refine wpAny_bind (wpAny_holding (hc (wpAny_bind (wpAny_pure ?_))))
 obtain ⟨hp, g, d, tk, os⟩ := s1
 have neC : e ≠ C := fun z => by rw [z, hC] at he; cases he
 repeat (first | with_reducible refine wpAny_loadPart_at he ?_ | with_reducible refine wpAny_loadPart_at hC ?_ | (with_reducible refine wpAny_isSubtype_exc hC ?_; rw [hcB]) | wp_step)
 generalize hh2 : (hp.update e (Obj.mapFields fun x => x.setIfInBounds 3 Value.none)).update e (Obj.mapFields fun x => x.setIfInBounds 4 (Value.bool true)) = h2
 have oth : ∀ b, b ≠ e → h2.get? b = hp.get? b := fun b n => by
  rw [← hh2, Heap.get?_update_other _ _ (Ne.symm n), Heap.get?_update_other _ _ (Ne.symm n)]
 have ge : h2.get? e = some { cls := .ref C, data := .fields #[.ref t, .none, .none, .none, .bool true, .none] } := by
  rw [← hh2]
  have g1 := Heap.get?_update_self (Obj.mapFields fun x => x.setIfInBounds 3 Value.none) he rfl
  exact (Heap.get?_update_self (Obj.mapFields fun x => x.setIfInBounds 4 (Value.bool true)) g1 rfl)
 unfold raiseNew
 refine wpAny_bind (wpAny_handled ?_)
 rw [hh]
 simp only
 rw [if_pos (by simp [Ne.symm ne])]
 refine wpAny_bind (wpAny_holding (Zb (s := ⟨h2, g, d, tk, os⟩) ((oth a (Ne.symm ne)).trans ga) da a2 ?_))
 refine wpAny_bind ?_
 unfold updateField
 refine wpAny_bind (wpAny_load ge ?_)
 simp only
 rw [if_pos (by simp)]
 have g3 := Heap.get?_update_self (Obj.mapFields fun x => x.setIfInBounds 2 (Value.ref a)) ge rfl
 exact wpAny_update ge (wpAny_throw (hE _ _ _ (fun b n => (Heap.get?_update_other _ _ (Ne.symm n)).trans (oth b n)) g3 rfl rfl rfl))
theorem Zc (Fn : ExcBaseFacts Bn newId inN bmN) (hBn : bmB.contains (.type Bn) = true) (F : ExcBaseFacts B nid initId bmB) 
 (hbase : bm.contains (.type "BaseException") = true) (hh : A.handled = some (.ref a)) (hplain : (backTo cpos (starEach args env)).any (·.1) = false) (hni : mN "__init__" = none)
 (h : wpAny (model prog w) A (eval (.Name x np) env) (fun f s1 => f = .ref C ∧ wpAny (model prog w) A (evalArgs (.ref C) true (backTo cpos (starEach args env)) [])
  (fun r s2 => r.kw = [] ∧ r.pos.length ≤ sizeLine ∧ s2.heap.get? C = some (excClassObj nm q C N bs bm hdct sn sub ab col dd k0 k1 k2 k3 k5 newId) ∧ s2.heap.Ns N mN ∧ OwnTail s2.heap bmB bm ∧ (∃ oa fa, s2.heap.get? a = some oa ∧ oa.data = .fields fa ∧ fa[2]? = some .none) ∧
   ∀ h' e oe fe, s2.heap.get? e = none → (∀ b o, s2.heap.get? b = some o → h'.get? b = some o) → h'.get? e = some oe → oe.cls = .ref C → oe.data = .fields fe → fe[1]? = some .none → E (.ref e) { s2 with heap := h' }) E s1) E s) :
 wpAny (model prog w) A (exec (.Raise (some (.Call (.Name x np) args [] cpos)) (some (.Constant .none ok cp)) pos) env) Q E s := by
 rw [arm_exec_Raise]
 simp only [evalOpt, Option.map]
 refine wpAny_bind (wpAny_standAt (zc (C := C) (nm := nm) (q := q) (N := N) (bs := bs) (bm := bm) (hdct := hdct) (sn := sn) (sub := sub) (ab := ab) (col := col) (dd := dd) (k0 := k0) (k1 := k1) (k2 := k2) (k3 := k3) (k5 := k5) (newId := newId) hbase hh ?_ (wpAny_bind (wpAny_mono (wpAny_Call_ofName (wpAny_mono h (fun f s1 h1 => ?_) fun _ _ z => z)) (fun v s3 h3 => wpAny_bind (wpAny_standAt (wpAny_pure h3))) fun _ _ z => z))))
 · intro Q E s k
   refine wpAny_bind ?_
   rw [arm_eval_Constant]
   repeat wp_step
   exact k
 obtain ⟨rfl, h1⟩ := h1
 unfold callWith
 refine wpAny_bind (wpAny_holding (wpAny_mono h1 (fun r s2 h2 => wpAny_bind (wpAny_standAt ?_)) fun _ _ z => z))
 obtain ⟨rpos, rkw⟩ := r
 obtain ⟨hkw, hlen, hC, hn, T, ⟨oa, fa, ga, da, a2⟩, h2⟩ := h2
 obtain rfl : rkw = [] := hkw
 obtain ⟨hp, g, d, tk, os⟩ := s2
 simp only [hplain]
 refine wpAny_bind (wpAny_keeperOf_exc hC ?_)
 refine wpAny_bind (wpAny_call_exc_subU (hrest := hlen) Fn hBn F T hC hn hni fun h' e hm => wpAny_bind (wpAny_holding (wpAny_point (wpAny_pure ?_))))
 obtain ⟨t, ht, _, _⟩ := hm.there
 have nea : e ≠ a := fun z => by have := hm.new; rw [z] at this; rw [show hp.get? a = some oa from ga] at this; cases this
 refine ⟨e, t, oa, fa, rfl, nea, hm.keeps _ _ hC, ht, hm.keeps _ _ ga, da, a2, fun h3 oe fe o3 g3 c3 d3 f3 => h2 h3 e oe fe hm.new (fun b o gb => ?_) g3 c3 d3 f3⟩
 rw [o3 b (fun z => by have := hm.new; rw [← z] at this; rw [show hp.get? b = some o from gb] at this; cases this)]
 exact hm.keeps _ _ gb
end
theorem Flew.on (F : Flew P w stk H s C a ch fv H' B s2) (z : Bw B stk a (.ref C) fv' (fun fs => ch = none → fs[2]? = some .none) h') (us : s2.heap.UpToSlots h') :
 Flew P w stk H s C a ch fv' H' B { s2 with heap := h' } := by
 refine ⟨F.os, F.bare, z, F.keep, F.there, F.free, fun b o g n m => ?_, F.tups, F.frzs, F.tbls, F.hok⟩
 obtain ⟨sl, g2⟩ := F.slot b o g n m
 obtain ⟨_, o2, g3, nf⟩ := F.fly.2.2.1.mem m
 rw [g2] at g3; cases g3
 obtain ⟨sl3, g4⟩ := us b _ g2 nf
 exact ⟨sl3, g4⟩
theorem zd {X : Cx} {pins : List (Addr × Obj)} {sg : L2.St} {H : Hp} {s1 : Shared} {C e : Addr} {ch : Option Addr} {fv : Value} {h7 h9 : Heap} (I : L2.Inv X pins sg H s1) (kp : ∀ b o, s1.heap.get? b = some o → h7.get? b = some o)
 (z : Bw (W.hideAll s1.heap (frs X.stack)) X.stack e (.ref C) fv (fun fs => ch = none → fs[2]? = some .none) h9) (us : h7.UpToSlots h9) : Flew X.prog X.w X.stack H s1 C e ch fv H (W.hideAll s1.heap (frs X.stack)) { s1 with heap := h9 } := by
 refine ⟨rfl, I.bare, z, fun b o g n m => W.hideAll_get _ g m, fun b o g m => ⟨o, W.hideAll_get _ g m⟩, fun b o g n => n, fun b o g n m => ?_, fun _ _ h => h, fun _ _ _ h => h, fun b ps h => ⟨#[], by rw [Array.append_empty]; exact h⟩, fun b o g => ?_⟩
 · have st : s1.heap.FunFrames X.base X.stack := I.stack
   obtain ⟨_, o2, g2, nf⟩ := st.mem m
   rw [g] at g2; cases g2
   exact us b o (kp b o g) nf
 · have hfree : ∀ b ∈ frs X.stack, H b = none := I.stkFree
   refine (I.hok b o g).stay (fun c u hc g => W.hideAll_get _ g fun hm => ?_) (fun _ h => h) fun _ _ h => h
   have := hfree c hm
   rcases hc with rfl | hc
   · rename_i g0; simp only [this] at g; cases g
   · rw [this] at hc; cases hc
theorem Zd (ok : X.Ok) (I : L2.Inv (Cx.hd X a) pins sg H s) : L2.Inv X pins sg H s :=
 ⟨ok, I.os, I.bare, I.base, I.loc, I.cell, I.free, I.freeC, I.pin, I.hok, I.len⟩
theorem ze {X : Cx} {body : List Stmt} {x y txt : Str} {j ok : Nat} {np hp pos yp ap cpos rpos cp : Pos} {Cx' Cy : Addr} {tb : XK → TS} {E : XK} {bmB : List Value} (hfn : ∀ y, X.fn y = true) (hstk : X.stack = X.env :: X.outer) (hfr : X.env.frame = some X.env.locals) (hex : X.ex = [])
 (hg : Gl X x) (hm : X.mg x = some (.ref Cx')) (hgy : Gl X y) (hmy : X.mg y = some (.ref Cy)) (hq : W.excIn X.K Cy [.type "ValueError", .type "Exception", .type "BaseException", .type "object"] "ValueError.__new__" = true) (hH : Mi X E)
 (hb : ∀ (pn : List (Addr × Obj)) (E0 : XK) (xe0 : Value → Shared → Prop), PassesOwn (model X.prog X.w) X.A X.env xe0 → Passes (CXd X.prog X.w) (Cx.tr X pn xe0) E0 → PSs (Cx.tr X pn xe0) body (tb E0)) (hd : (x == ("__debug__" : Str)) = false := by decide) (hdy : (y == ("__debug__" : Str)) = false := by decide) :
 PS X (.Try body [.ExceptHandler (some (.Name x np)) none [.Raise (some (.Call (.Name y yp) [.Constant (.str txt) j ap] [] cpos)) (some (.Constant .none ok cp)) rpos] hp] [] [] pos)
  (fun D sg H => sg.length = X.N.length → ∃ E0 : XK, (∀ C ch H', E0 (.ref C) ch H' → (W.exmOne X.K (.ref C) (.ref Cx') = some true ∧ ch = none ∧ ∀ a, H' a = none → E (.ref Cy) (some a) (upd H' a (.ext (fj a (.ref C))))) ∨ (W.exmOne X.K (.ref C) (.ref Cx') = some false ∧ E (.ref C) ch H')) ∧ tb E0 D sg H) := by
 intro pins s sg H D I h
 obtain ⟨E0, hE, h⟩ := h I.len
 refine wpAny_Try_except ?_
 refine wpAny_mono (hb (X.pn ++ pins) E0 _ PassesOwn.looking (fun pins' sg1 H1 e1 e s2 I1 h1 => ?_) [] s sg H D (Qk I) h) (fun f s1 q => ?_) (fun e s1 q => q)
 · obtain ⟨C, a, ch, H', B, rfl, F, q⟩ := h1
   have I1 : L2.Inv X pins sg1 H1 e1 := El I1
   refine mi Jl (by rw [I.ok.frames, hstk]) hfr (by rw [← hstk]; exact F.fly) fun h4 held4 us4 => ?_
   refine fo (s := { s2 with heap := h4 }) held4 none fun h5 fly5 us5 => ?_
   have J5 := landed hfn hstk hfr hex I1 F (by rw [hstk]; exact fly5) (us4.trans us5)
   obtain ⟨ob, _, hob, hobc, _⟩ := fly5.there
   have hHa : H' a = none := by
    cases z : H' a with
    | none => rfl
    | some y =>
     obtain ⟨oc, hc⟩ := Mj (F.hok a y z)
     have := fly5.2.1
     rw [hc] at this; cases this
   refine wpAny_handleBy_cons (codeAny_handlers_test (gc (X := Cx.hd X a) J5 hg hm ?_ hd)) (by intro q; cases q)
   rcases hE C ch H' q with ⟨ht, hch, hEy⟩ | ⟨ht, hEn⟩
   · refine W.exm_one (h := h5) J5.kIn (ml hob hobc) ht _ _ _ _ (fun _ _ e => e) ?_
     rw [if_pos rfl]
     refine codeAny_handlers_suite ?_
     refine fo (s := { s2 with heap := h5 }) fly5 none fun h6 fly6 us6 => ?_
     have J6 := landed hfn hstk hfr hex I1 F (by rw [hstk]; exact fly6) ((us4.trans us5).trans us6)
     have obj := qk J6.mod.kin hq
     obtain ⟨tl, N, nm, qn, bs, hdct, sn, sub, ab, col, dd, k0, k1, k2, k3, k5, mN, hC, hN, hni, T⟩ := obj
     have FB := PySem.F.excBase_ValueError
     have oa6 := fly6.there
     obtain ⟨oa, fa, ga, _, da, a2⟩ := oa6
     refine wpAny_execs_cons ?_
     refine Zc (C := Cy) (nm := nm) (q := qn) (N := N) (bs := bs) (bm := tl) (hdct := hdct) (sn := sn) (sub := sub) (ab := ab) (col := col) (dd := dd) (k0 := k0) (k1 := k1) (k2 := k2) (k3 := k3) (k5 := k5) (a := a)
      FB (by decide) FB (mN := mN) (T.hasType FB.hasBase) rfl rfl hni (gc (X := Cx.hd X a) J6 hgy hmy ⟨rfl, ?_⟩ hdy)
     refine Calls.evalArgs_plain ?_
     show wpAny _ _ (spliced ((false, eval (.Constant (.str txt) j ap) X.env) :: backTo cpos (starEach [] X.env))) _ _ _
     refine Calls.spliced_cons (Calls.Constant_str ?_)
     refine Calls.spliced_nil ?_
     have J7 := J6.tok ({ s2 with heap := h6 } : Shared).toks.succ
     generalize hs7 : ({ s2 with heap := h6, toks := s2.toks + 1 } : Shared) = s7 at *
     have ga7 : s7.heap.get? a = some oa := by rw [← hs7]; exact ga
     refine ⟨rfl, (by decide : 1 ≤ sizeLine), J7.bk _ _ hC, hN.keeps J7.bk, T.keeps J7.bk, ⟨oa, fa, ga7, da, a2 hch⟩, fun h8 e oe fe en kp8 ge ce de fe1 => ?_⟩
     have J7' : L2.Inv X pins (Ip X) (upd H' a (.ext (fj a (.ref C)))) s7 := Zd I.ok J7
     have hst : s7.heap.FunFrames X.base X.stack := J7'.stack
     have bn : (W.hideAll s7.heap (frs X.stack)).get? e = none := by
      cases z : (W.hideAll s7.heap (frs X.stack)).get? e with
      | none => rfl
      | some o => have := W.of_hideAll _ z; rw [en] at this; cases this
     have ff := mj hst fun x h => h
     rw [hstk] at ff
     refine qj (bs := W.hideAll s7.heap (frs X.stack)) (R := fun fs => (some a : Option Addr) = none → fs[2]? = some .none) (s := { s7 with heap := h8 }) Jl (by rw [show (X.A.mark (some (Value.ref a))).frames = X.A.frames from rfl, I.ok.frames, hstk]) ((by rw [← hstk] at ff ⊢; exact ff.of_keeps fun b o e _ => ⟨o, kp8 b o e, rfl⟩)) hfr ge (fun b o e => kp8 b o (W.of_hideAll _ e)) bn de fe1 (by intro z; cases z) fun h9 z9 u9 => ?_
     have z9c := z9
     obtain ⟨_, _, _, oe9, ws, T9, oT9, ts, he9, hc9, _, hd9, h19, _⟩ := z9c
     show wpAny _ _ _ _ _ _
     refine wpAny_bind (wpAny_field he9 hd9 h19 ?_)
     rw [if_neg (show ¬ ((Value.ref T9 == Value.none) = true) by simp)]
     rw [hfr]
     refine fo (s := { s7 with heap := h9 }) z9 (some X.env.locals) fun h10 z10 u10 => ?_
     exact hH pins (Ip X) _ s7 _ Cy e (some a) _ _ J7' (zd J7' kp8 (by rw [ce, hstk] at z10; rw [hstk]; exact z10) (u9.trans u10)) (hEy a hHa)
   · refine W.exm_one (h := h5) J5.kIn (ml hob hobc) ht _ _ _ _ (fun _ _ e => e) ?_
     rw [if_neg (by decide)]
     refine wpAny_handleBy_nil ?_
     obtain ⟨_, _, _, oe, ws, T, oT, ts, he, hc, _, hd', h1, _⟩ := id fly5
     unfold PySem.passOn
     refine wpAny_bind (wpAny_field he hd' h1 ?_)
     rw [if_neg (show ¬ ((Value.ref T == Value.none) = true) by simp)]
     refine wpAny_bind ?_
     rw [hfr]
     refine fo (s := { s2 with heap := h5 }) fly5 (some X.env.locals) fun h6 fly6 us6 => wpAny_throw ?_
     exact hH pins sg1 H1 e1 _ C a ch H' B I1 (F.on (by rw [hstk]; exact fly6) ((us4.trans us5).trans us6)) hEn
 · cases f with
   | next =>
    obtain ⟨sg1, H1, I1, q⟩ := q
    exact wpAny_execs_nil ⟨sg1, H1, El I1, q⟩
   | brk => obtain ⟨sg1, H1, I1, q⟩ := q; exact ⟨sg1, H1, El I1, q⟩
   | cont => obtain ⟨sg1, H1, I1, q⟩ := q; exact ⟨sg1, H1, El I1, q⟩
   | ret v => obtain ⟨x1, sg1, H1, I1, r, q⟩ := q; exact ⟨x1, sg1, H1, El I1, r, q⟩
end DD
namespace DD
open PySem PySem.Spec PySem.W PySem.Calls PyProof.Rows Builtin Builtin.ObjectAttr Builtin.Getset_descriptor
structure ExcC (K : Frag) (C : Addr) : Prop where
 cl : (clsIn K C).isSome = true
 ga : findIn K (.ref C) "__getattribute__" = some (some (.builtin "BaseException.__getattribute__"))
 gn : findIn K (.ref C) "__getattr__" = some none
 ha : findIn K (.ref C) "__class__" = some (some (.builtin "object.__class__"))
 hn : specialIn K (.builtin "object.__class__") "__get__" = some (some (.builtin "getset_descriptor.__get__"))
 tk : takesIn K (.builtin "object.__class__") = some true
 ob : mroIn K C (.type "object") = some true
 be : mroIn K C (.type "BaseException") = some true
section
variable {prog : Program} {w : World} {A : Around} {E : Value → Shared → Prop} {s : Shared} {K : Frag} {x C : Addr}
theorem Ze (X : K.In s.heap) (L0 : Looks (model prog w) s.heap (typeOf (.ref x)) (.ref C)) (hm : mroIn K C (.type "object") = some true)
 (h : R (.ok (.ret (.ref C))) s) : codeAny (model prog w) A (.call (.builtin "getset_descriptor.__get__") ⟨[.builtin "object.__class__", .ref x, tp], []⟩) R s := by
 obtain ⟨hh, g, dr, t, os⟩ := s
 have L1 := looks_mroIn (M := model prog w) X hm
 refine codeAny_call_builtin KF.slot_gs.plain KF.entry_gs (KF.slot_gs.check _ _ _ _ _ _ _ _ KF.type_class (KF.args_gs _ _ _) ?_)
 unfold Builtin.«getset_descriptor.__get__» descrGet
 rw [dga_obj]
 refine wpAny_bind (wpAny_pure ?_)
 unfold descrGetter descrCheckInstance descrNameAndClass isInstance
 simp only [KF.owner_class]
 repeat lk
 refine ⟨Code.quiet_builtin _ (by decide +kernel), codeAny_builtin KF.entry_class ?_⟩
 unfold Builtin.«object.__class__» shownTypeOf
 repeat lk
 exact h
theorem zf (X : K.In s.heap) (ec : ExcC K C) : Looks M s.heap (Builtin.ObjectAttr.find (.ref x) (.ref C) "__class__") (.bind (.builtin "getset_descriptor.__get__") (.builtin "object.__class__")) := by
 have L1 := looks_findIn (M := M) X ec.ha
 have L2 : Looks M s.heap (Builtin.ObjectAttr.getOf (some (.builtin "object.__class__"))) (some (.builtin "getset_descriptor.__get__")) := looks_specialIn X ec.hn
 have L3 := looks_takesIn (M := M) X ec.tk
 refine L1.andThen (L2.andThen ?_)
 exact (show Looks M s.heap (Builtin.ObjectAttr.dataDescriptor? (some (.builtin "object.__class__")) (some (.builtin "getset_descriptor.__get__"))) (some (.builtin "getset_descriptor.__get__", .builtin "object.__class__")) from L3.andThen .now).andThen (Looks.tag .now)
theorem Zf (X : K.In s.heap) (ec : ExcC K C) (L0 : Looks (model prog w) s.heap (typeOf (.ref x)) (.ref C)) (hq : Q (.done (.ret (.ref C))) s) :
 wpAny (model prog w) A (Builtin.«object.__getattribute__» ⟨[.ref x, .str "__class__" tk], []⟩) Q E s := by
 have LF := zf (x := x) X ec (M := model prog w)
 have hc := Ze (A := A) (tp := .ref C) (R := fun r s' => match r with | .ok (.ret v) => v = .ref C ∧ s' = s | _ => False) X L0 ec.ob ⟨rfl, rfl⟩
 obtain ⟨hh, g, dr, t, os⟩ := s
 unfold Builtin.«object.__getattribute__»
 repeat (first | (with_reducible refine wpAny_call (codeAny_mono hc fun r s' hr => ?_)) | lk)
 cases r with
 | error e => exact hr.elim
 | ok f =>
  cases f with
  | ret v => obtain ⟨rfl, rfl⟩ := hr; exact wpAny_pure hq
  | _ => exact hr.elim
theorem zg (X : K.In s.heap) (ec : ExcC K C) (L0 : Looks (model prog w) s.heap (typeOf (.ref x)) (.ref C)) (hq : Q () s) :
 wpAny (model prog w) A (checkBuiltinCall "BaseException.__getattribute__" ⟨[.ref x, .str "__class__" tk], []⟩) Q E s := by
 have hk : builtinKind "BaseException.__getattribute__" = some .slot := by decide +kernel
 have hsplit : splitId "BaseException.__getattribute__" = some ("BaseException", "__getattribute__") := by decide +kernel
 have ha := F.args_bexc_ga (.ref x) (.str "__class__" tk)
 have L1 := looks_mroIn (M := model prog w) X ec.be
 obtain ⟨hh, g, dr, t, os⟩ := s
 simp only [checkBuiltinCall, hk, hsplit]
 refine wpAny_bind ?_
 unfold isInstance
 repeat (first | lk | wp_step)
 exact hq
theorem Zg (X : K.In s.heap) (ec : ExcC K C) (L0 : Looks (model prog w) s.heap (typeOf (.ref x)) (.ref C)) (hq : R (.ok (.ret (.ref C))) s) :
 codeAny (model prog w) A (.call (.builtin "BaseException.__getattribute__") ⟨[.ref x, .str "__class__" tk], []⟩) R s :=
 codeAny_call_builtin (by decide +kernel) F.entry_bexc_ga (zg X ec L0 (Zf X ec L0 hq))
theorem zh (X : K.In s.heap) (ec : ExcC K C) (L0 : Looks (model prog w) s.heap (typeOf (.ref x)) (.ref C)) (hq : Q (some (.ref C)) { s with toks := s.toks + 1 }) :
 wpAny (model prog w) A (getAttr? (.ref x) "__class__") Q E s := by
 have hx2 : (Value.builtin "BaseException.__getattribute__" == Value.builtin "object.__getattribute__") = false := by decide +kernel
 have L1 := looks_findIn (M := model prog w) X ec.ga
 have L2 := looks_findIn (M := model prog w) X ec.gn
 have hc := Zg (s := { s with toks := s.toks + 1 }) (A := A) (tk := s.toks) (R := fun r s' => match r with | .ok (.ret v) => v = .ref C ∧ s' = { s with toks := s.toks + 1 } | _ => False) X ec L0 ⟨rfl, rfl⟩
 obtain ⟨hh, g, d, t, os⟩ := s
 unfold getAttr? getAttrBy? getAttrBy
 refine wpAny_bind (wpAny_mkText (wpAny_bind (wpAny_attempt (wpAny_holding (wpAny_bind (L0.at (wpAny_bind (L1.at ?_))))))))
 dsimp only
 rw [hx2, Bool.and_false, if_neg Bool.false_ne_true]
 have hb : bindSpecial (.builtin "BaseException.__getattribute__") (.ref x) = pure (.builtin "BaseException.__getattribute__", [.ref x]) := by
  have hop : withoutEnding? "BaseException.__getattribute__" "#opaque" = none := by decide +kernel
  have hdat : withoutEnding? "BaseException.__getattribute__" "#data" = none := by decide +kernel
  have hkd : builtinKind "BaseException.__getattribute__" = some .slot := by decide +kernel
  simp only [bindSpecial, typeOf, builtinType, hop, hdat, hkd]; rfl
 unfold getAttrByItsOwn hookBefore callGetattribute boundAndCalled
 rw [show onTheHeap (.ref C) = true from rfl, if_pos rfl]
 refine wpAny_bind (L2.at ?_)
 refine wpAny_bind (wpAny_attempt (wpAny_holding ?_))
 rw [if_neg (by simp)]
 refine wpAny_bind (wpAny_of_eq hb ?_)
 show wpAny (model prog w) A (call (.builtin "BaseException.__getattribute__") [.ref x, .str "__class__" t]) _ _ _
 refine wpAny_call (codeAny_mono hc fun r s' hr => ?_)
 cases r with
 | error e => exact hr.elim
 | ok f =>
  cases f with
  | ret v =>
   obtain ⟨rfl, rfl⟩ := hr
   exact wpAny_of_eq (handedOut_of rfl) (wpAny_pure hq)
  | _ => exact hr.elim
theorem Zh (ec : ExcC K C) : KitX K (.ref x) (.ref C) (fun h => ∃ o, h.get? x = some o ∧ o.cls = .ref C) where
 ty := fun M h _ ⟨o, e, hc⟩ => hc ▸ (Looks.ld e).andThen .now
 it := fun _ _ X _ => by
  obtain ⟨cd, hcd⟩ := Option.isSome_iff_exists.mp ec.cl
  unfold clsIn at hcd
  split at hcd
  · rename_i c' d' cd' sl' ho
    intro A' Q' E' s' k q
    unfold isType loadHead
    exact wpAny_bind (wpAny_loadPart (k _ _ (X _ _ ho)) (wpAny_pure q))
  · cases hcd
 ne := fun h tp dd its n sl X htp => by
  obtain ⟨cd, hcd⟩ := Option.isSome_iff_exists.mp ec.cl
  refine Bool.eq_false_iff.mpr fun q => ?_
  have e : C = tp := Value.ref.inj (beq_iff_eq.mp q)
  subst e
  unfold clsIn at hcd
  split at hcd
  · rename_i ho
    have := X _ _ ho
    rw [htp] at this
    cases this
  · cases hcd
 ca := fun X ⟨o, e, hc⟩ hq => zh X ec (hc ▸ (Looks.ld e).andThen .now) hq
end
end DD
namespace DD
open PySem PySem.Spec L2
variable {g : G} {X : Cx} {a b c : Expr} {a' b' c' : E} {pos : Pos}
theorem Ml {H : Hp} {s : Shared} {rho : List Addr} {f : D → Option PyData}
 (hf : ∀ (d : D) (v : V) (u : Value) (p : PyData), g.Rep rho H d v → RelV v u → f d = some p → ∃ as, Reads s.heap u p as) :
 ∀ {ds : List D} {vs : List V} {us : List Value} {ps : List PyData}, g.RepL rho H ds vs → Vals vs us → bw (ds.map f) = some ps → ∃ as, ReadsAll s.heap us ps as
 | [], vs, us, ps, r, rv, e => by
  simp only [RepL] at r; subst r
  cases rv
  simp [bw] at e; subst e
  exact ⟨[], .nil⟩
 | d :: t, vs, us, ps, r, rv, e => by
  simp only [RepL] at r
  obtain ⟨v, w, rfl, r1, r2⟩ := r
  cases rv with
  | cons q1 q2 =>
   simp only [List.map_cons] at e
   cases ed : f d with
   | none => rw [ed] at e; simp [bw] at e
   | some p =>
    rw [ed] at e
    simp only [bw] at e
    cases et : bw (t.map f) with
    | none => rw [et] at e; cases e
    | some ps' =>
     rw [et] at e; cases e
     obtain ⟨as, h1⟩ := hf _ _ _ _ r1 q1 ed
     obtain ⟨bs, h2⟩ := Ml hf r2 q2 et
     exact ⟨as ++ bs, .cons h1 h2⟩
theorem reads (hK : X.K = g.K) (I : Inv X pins sg H s) (S : g.Sto rho st H) :
 ∀ (n : Nat) (d : D) (v : V) (u : Value) (p : PyData), g.Rep rho H d v → RelV v u → au st n d = some p → ∃ as, Reads s.heap u p as := by
 intro n
 induction n with
 | zero =>
  intro d v u p r rv e
  cases d with
  | non => cases Dc.mp r; simp [au] at e; subst e; cases rv; exact ⟨_, .none⟩
  | bl b => cases bg.mp r; simp [au] at e; subst e; cases rv; exact ⟨_, .bool b⟩
  | int i => cases aw.mp r; simp [au] at e; subst e; obtain ⟨t, rfl⟩ := rv; exact ⟨_, .int i t⟩
  | str x => cases Bs.mp r; simp [au] at e; obtain ⟨_, rfl⟩ := e; obtain ⟨t, rfl⟩ := rv; exact ⟨_, .str x t⟩
  | tup ds => simp [au] at e
  | loc m => simp [au] at e
 | succ n ih =>
  intro d v u p r rv e
  cases d with
  | non => cases Dc.mp r; simp [au] at e; subst e; cases rv; exact ⟨_, .none⟩
  | bl b => cases bg.mp r; simp [au] at e; subst e; cases rv; exact ⟨_, .bool b⟩
  | int i => cases aw.mp r; simp [au] at e; subst e; obtain ⟨t, rfl⟩ := rv; exact ⟨_, .int i t⟩
  | str x => cases Bs.mp r; simp [au] at e; obtain ⟨_, rfl⟩ := e; obtain ⟨t, rfl⟩ := rv; exact ⟨_, .str x t⟩
  | tup ds =>
   obtain ⟨a, vs, rfl, q, rl⟩ := bz.mp r
   simp only [au] at e
   cases eo : bw (ds.map (au st n)) with
   | none => rw [eo] at e; cases e
   | some ps =>
    rw [eo] at e; cases e
    rw [← hK] at q
    obtain ⟨its, rvs, ⟨o, ho, hc, n', hd⟩, _⟩ := I.tuple q
    obtain ⟨as, h2⟩ := Ml ih rl rvs eo
    cases rv
    exact ⟨as, .tuple ho hc hd (by simpa using h2)⟩
  | loc m =>
   simp only [au] at e
   cases el : av st m with
   | none => rw [el] at e; cases e
   | some ds =>
    rw [el] at e
    simp only [Option.bind_some] at e
    cases eo : bw (ds.map (au st n)) with
    | none => rw [eo] at e; cases e
    | some ps =>
     rw [eo] at e; cases e
     obtain ⟨a, vs, hr, q, rl⟩ := Ek S el
     obtain ⟨a2, h1, h2⟩ := bh.mp r
     rw [hr] at h1; cases h1
     subst h2
     rw [← hK] at q
     obtain ⟨its, rvs, ⟨o, n', ho, hc, _, hd⟩, _⟩ := I.list q
     obtain ⟨as, h3⟩ := Ml ih rl rvs eo
     cases rv
     exact ⟨a :: as, .list ho hc hd (by simpa using h3)⟩
theorem Kh : ∀ (n : Nat) (d : D) (p : PyData), au st n d = some p → p.canLay0 = true ∧ p.depth ≤ n := by
 have all : ∀ (n : Nat), (∀ (d : D) (p : PyData), au st n d = some p → p.canLay0 = true ∧ p.depth ≤ n) → ∀ (ds : List D) (ps : List PyData), bw (ds.map (au st n)) = some ps → PyData.canLayAll0 ps = true ∧ PyData.depthAll ps ≤ n := by
  intro n ih ds
  induction ds with
  | nil => intro ps e; simp [bw] at e; subst e; exact ⟨rfl, Nat.zero_le _⟩
  | cons d t ih2 =>
   intro ps e
   simp only [List.map_cons] at e
   cases ed : au st n d with
   | none => rw [ed] at e; simp [bw] at e
   | some p =>
    rw [ed] at e
    simp only [bw] at e
    cases et : bw (t.map (au st n)) with
    | none => rw [et] at e; cases e
    | some ps' =>
     rw [et] at e; cases e
     obtain ⟨h1, h2⟩ := ih _ _ ed
     obtain ⟨h3, h4⟩ := ih2 _ et
     exact ⟨by simp only [PyData.canLayAll0, h1, h3, Bool.and_self], by simp only [PyData.depthAll]; exact Nat.max_le.mpr ⟨h2, h4⟩⟩
 intro n
 induction n with
 | zero =>
  intro d p e
  cases d <;> simp [au] at e <;> first | (subst e; exact ⟨rfl, Nat.zero_le _⟩) | (obtain ⟨h, rfl⟩ := e; exact ⟨h, Nat.zero_le _⟩)
 | succ n ih =>
  intro d p e
  cases d with
  | non => simp [au] at e; subst e; exact ⟨rfl, Nat.zero_le _⟩
  | bl b => simp [au] at e; subst e; exact ⟨rfl, Nat.zero_le _⟩
  | int i => simp [au] at e; subst e; exact ⟨rfl, Nat.zero_le _⟩
  | str x => simp [au] at e; obtain ⟨h, rfl⟩ := e; exact ⟨h, Nat.zero_le _⟩
  | tup ds =>
   simp only [au] at e
   cases eo : bw (ds.map (au st n)) with
   | none => rw [eo] at e; cases e
   | some ps =>
    rw [eo] at e; cases e
    obtain ⟨h1, h2⟩ := all n ih _ _ eo
    exact ⟨h1, by simp only [PyData.depth]; omega⟩
  | loc m =>
   simp only [au] at e
   cases el : av st m with
   | none => rw [el] at e; cases e
   | some ds =>
    rw [el] at e
    simp only [Option.bind_some] at e
    cases eo : bw (ds.map (au st n)) with
    | none => rw [eo] at e; cases e
    | some ps =>
     rw [eo] at e; cases e
     obtain ⟨h1, h2⟩ := all n ih _ _ eo
     exact ⟨h1, by simp only [PyData.depth]; omega⟩
theorem ki (h : au st n d = some p) (hn : n ≤ 64) : SeqAt.shaped p = true := by
 obtain ⟨h1, h2⟩ := Kh n d p h
 unfold SeqAt.shaped
 rw [h1, decide_eq_true (by omega : p.depth ≤ 64)]
 rfl
def Ki (g : G) (neg : Bool) : R2 := fun x y H Q => ∃ rho st d e p q, g.Sto rho st H ∧ g.Rep rho H d x ∧ g.Rep rho H e y ∧ au st 40 d = some p ∧ au st 40 e = some q ∧ Q (.bl (if neg then !PyData.eqv p q else PyData.eqv p q)) H
theorem ql (hK : X.K = g.K) (hu : X.A.units + 64 < cLine) : OpR X (compareOp .Eq) (Ki g false) := by
 intro pins s sg H x y v u Q I rx ry h
 obtain ⟨rho, st, d, e, p, q, S, r1, r2, e1, e2, hq⟩ := h
 obtain ⟨as, h1⟩ := reads hK I S 40 d x v p r1 rx e1
 obtain ⟨bs, h2⟩ := reads hK I S 40 e y u q r2 ry e2
 exact SeqAt.compareEq_shaped h1 h2 (ki e1 (by decide)) (ki e2 (by decide)) hu ⟨.bl _, H, I, rfl, hq⟩
theorem zi (hK : X.K = g.K) (hu : X.A.units + 64 < cLine) : OpR X (compareOp .NotEq) (Ki g true) := by
 intro pins s sg H x y v u Q I rx ry h
 obtain ⟨rho, st, d, e, p, q, S, r1, r2, e1, e2, hq⟩ := h
 obtain ⟨as, h1⟩ := reads hK I S 40 d x v p r1 rx e1
 obtain ⟨bs, h2⟩ := reads hK I S 40 e y u q r2 ry e2
 exact SeqAt.compareNe_shaped h1 h2 (ki e1 (by decide)) (ki e2 (by decide)) hu ⟨.bl _, H, I, rfl, hq⟩
theorem Ql {st : Sto} {x y : D} {b : Bool} (h : eqV st x y = some b) : ∃ p q, au st 40 x = some p ∧ au st 40 y = some q ∧ b = PyData.eqv p q := by
 unfold eqV at h
 cases e1 : au st 40 x with
 | none => rw [e1] at h; cases h
 | some p =>
  cases e2 : au st 40 y with
  | none => rw [e1, e2] at h; cases h
  | some q => rw [e1, e2] at h; cases h; exact ⟨p, q, rfl, rfl, rfl⟩
end DD
namespace DD
open PySem PySem.Spec L2
open PyProof.Rows hiding St RelV
section
variable {prog : Program} {w : World}
def pyN : Nat → D → PyData
 | _, .int i => .int i
 | _, .str x => .str x
 | n + 1, .tup ds => .tuple (ds.map (pyN n))
 | _, _ => .none
end
section
variable {prog : Program} {w : World}
end
variable {g : G} {X : Cx} {pos apos cpos : Pos} {F : Nat} {a b c : Expr} {a' b' c' : E}
end DD
namespace DD
open PySem PySem.Spec L2
variable {g : G} {X : Cx} {a b c : Expr} {a' b' c' : E} {pos : Pos}
theorem kj (h : cmD k x y st = .ok d st') : ∃ b, d = .bl b := by
 cases k <;> simp only [cmD] at h <;> (repeat' (split at h)) <;> first | (cases h; exact ⟨_, rfl⟩) | cases h
theorem cmT (q : tT g (.cm k a' b') sg H Q) : tE g (.cm k a' b') sg H (fun x H' => ∃ z, x = .bl z ∧ Q z H') := by
 obtain ⟨rho, st, env, s, n, q⟩ := q
 refine ⟨rho, st, env, s, n, ?_⟩
 simp only [aq] at q
 simp only [Ab]
 revert q
 cases Ab g.tab g.call a' env st with
 | bad => exact fun q => q
 | exc c st1 => exact fun q => q
 | ok x st1 =>
  simp only [Bj]
  cases Ab g.tab g.call b' env st1 with
  | bad => exact fun q => q
  | exc c st2 => exact fun q => q
  | ok y st2 =>
   simp only [Bj]
   cases e : cmD k x y st2 with
   | bad => exact fun q => q
   | exc c st3 => exact fun q => q
   | ok d st3 =>
    obtain ⟨z, rfl⟩ := kj e
    simp only [Bj]
    intro q v H' rho' k1 s1 r1
    exact ⟨z, bg.mp r1, (show dc g rho H Q z st3 from q) H' rho' k1 s1⟩
theorem qm  {sg : L2.St} {H : Hp} {Q : VK} (q : tE g (.cm .eq a' b') sg H Q) : tOp (Ki g false) (tE g a') (tE g b') sg H Q := by
 obtain ⟨rho, st, env, s, n, q⟩ := q
 simp only [Ab] at q
 refine two (k := cmD .eq) ?_ s n q
 intro x y u v st rho H Q s rx ry q
 simp only [cmD] at q
 cases e : eqV st x y with
 | none => rw [e] at q; exact q.elim
 | some z =>
  rw [e] at q
  obtain ⟨p1, p2, h1, h2, rfl⟩ := Ql e
  exact ⟨rho, st, x, y, p1, p2, s, rx, ry, h1, h2, (show ar g rho H Q (.bl _) st from q) _ H rho (.refl _ _) s (bg.mpr rfl)⟩
theorem Mm (hK : X.K = g.K) (hu : X.A.units + 64 < cLine) (ha : Sd g X a a') (hb : Sd g X b b') : Sd g X (.Compare a [.Eq] [b] pos) (.cm .eq a' b') := bc (Ly (ql hK hu) ha hb (gd _)) fun sg H Q q => qm q
theorem Cc (hK : X.K = g.K) (hu : X.A.units + 64 < cLine) (ha : Sd g X a a') (hb : Sd g X b b') : SdT g X (.Compare a [.Eq] [b] pos) (.cm .eq a' b') := dw (Gd (ql hK hu) ha hb (gd _)) fun sg H Q q => qm (cmT q)
theorem Zi  {sg : L2.St} {H : Hp} {Q : VK} (q : tE g (.cm .ne a' b') sg H Q) : tOp (Ki g true) (tE g a') (tE g b') sg H Q := by
 obtain ⟨rho, st, env, s, n, q⟩ := q
 simp only [Ab] at q
 refine two (k := cmD .ne) ?_ s n q
 intro x y u v st rho H Q s rx ry q
 simp only [cmD] at q
 cases e : eqV st x y with
 | none => rw [e] at q; exact q.elim
 | some z =>
  rw [e] at q
  obtain ⟨p1, p2, h1, h2, rfl⟩ := Ql e
  exact ⟨rho, st, x, y, p1, p2, s, rx, ry, h1, h2, (show ar g rho H Q (.bl _) st from q) _ H rho (.refl _ _) s (bg.mpr rfl)⟩
theorem Dd (hK : X.K = g.K) (hu : X.A.units + 64 < cLine) (ha : Sd g X a a') (hb : Sd g X b b') : SdT g X (.Compare a [.NotEq] [b] pos) (.cm .ne a' b') := dw (Gd (zi hK hu) ha hb (gd _)) fun sg H Q q => Zi (cmT q)
theorem ints2 {r : Int → Int → Bool} {k : Cm} (hk : ∀ x y st, cmD k x y st = match x, y with | .int i, .int j => .ok (.bl (r i j)) st | _, _ => .bad) {sg : L2.St} {H : Hp} {Q : VK}
 (q : tE g (.cm k a' b') sg H Q) : tOp (rI0 fun i j => .bl (r i j)) (tE g a') (tE g b') sg H Q := by
 obtain ⟨rho, st, env, s, n, q⟩ := q
 simp only [Ab] at q
 refine two (k := cmD k) ?_ s n q
 intro x y u v st rho H Q s rx ry q
 rw [hk] at q
 cases x with
 | int i =>
  cases y with
  | int j => exact ⟨i, j, aw.mp rx, aw.mp ry, q _ H rho (.refl _ _) s (bg.mpr rfl)⟩
  | _ => exact q.elim
 | _ => exact q.elim
theorem jm (ha : Sd g X a a') (hb : Sd g X b b') : SdT g X (.Compare a [.Lt] [b] pos) (.cm .lt a' b') := dw (Gd wu ha hb (gd _)) fun sg H Q q => ints2 (fun x y st => by cases x <;> cases y <;> rfl) (cmT q)
theorem Kj (ha : Sd g X a a') (hb : Sd g X b b') : SdT g X (.Compare a [.Gt] [b] pos) (.cm .gt a' b') := dw (Gd Wv ha hb (gd _)) fun sg H Q q => ints2 (fun x y st => by cases x <;> cases y <;> rfl) (cmT q)
theorem zj (ha : Sd g X a a') (hb : Sd g X b b') : Sd g X (.Compare a [.GtE] [b] pos) (.cm .ge a' b') := bc (Ly Ww ha hb (gd _)) fun sg H Q q => ints2 (fun x y st => by cases x <;> cases y <;> rfl) q
theorem mn (s : g.Sto rho st H) (r : g.Rep rho H d v) (h : fh st d = some ds) : ∃ p vs, v = .ref p ∧ (SqL g.K H p vs ∨ SqT g.K H p vs) ∧ g.RepL rho H ds vs := by
 cases d with
 | tup xs =>
  simp only [fh] at h; cases h
  obtain ⟨p, vs, e, q, rl⟩ := bz.mp r
  exact ⟨p, vs, e, .inr q, rl⟩
 | loc n =>
  simp only [fh] at h
  obtain ⟨p, vs, h1, q, rl⟩ := Ek s h
  obtain ⟨p2, h2, e⟩ := bh.mp r
  rw [h1] at h2; cases h2
  exact ⟨p, vs, e, .inl q, rl⟩
 | _ => cases h
theorem Kk {a b : D} {k : Key} (h : kD a = some k) (h2 : kD b = some k) : a = b := by
 cases a <;> cases b <;> simp only [kD, Option.some.injEq, reduceCtorEq] at h h2 <;> first | (rw [← h] at h2; cases h2; rfl) | (rw [← h] at h2; cases h2)
theorem Mn {a : D} (h : Dq a = true) : ∃ k, kD a = some k := by
 cases a <;> simp [Dq] at h <;> exact ⟨_, rfl⟩
theorem Mo {rho : List Addr} {H : Hp} {a : D} {v : V} {k : Key} (r : g.Rep rho H a v) (h : kD a = some k) : v = kV k := by
 cases a with
 | int i => cases aw.mp r; cases h; rfl
 | str x => cases Bs.mp r; cases h; rfl
 | _ => cases h
theorem Qm {rho : List Addr} {H : Hp} {a : D} {k : Key} (ha : kD a = some k) : ∀ {kvs : List (D × D)} {ws : List (Key × V)}, ba g.K rho H kvs ws →
 (∀ x, bx kvs a = some x → ∃ v, Cr ws k = some v ∧ g.Rep rho H x v) ∧ (bx kvs a = none → Cr ws k = none)
 | [], ws, h => by
  simp only [ba] at h; subst h
  exact ⟨fun x e => by simp [bx] at e, fun _ => rfl⟩
 | (b, d) :: r, ws, h => by
  simp only [ba] at h
  obtain ⟨k', v, t, rfl, hk, rp, rest⟩ := h
  by_cases e : b = a
  · subst e
    rw [ha] at hk; cases hk
    refine ⟨fun x ex => ⟨v, by simp [Cr], ?_⟩, fun en => by simp [bx] at en⟩
    simp [bx] at ex; subst ex; exact rp
  · have hkk : k' ≠ k := fun z => e (Kk (by rw [hk, z]) ha)
    obtain ⟨h1, h2⟩ := Qm ha rest
    refine ⟨fun x ex => ?_, fun en => ?_⟩
    · obtain ⟨v', e1, e2⟩ := h1 x (by simpa [bx, e] using ex)
      exact ⟨v', by simpa [Cr, hkk] using e1, e2⟩
    · have := h2 (by simpa [bx, e] using en)
      simpa [Cr, hkk] using this
theorem iq (s : g.Sto rho st H) (h : Cw st n = some kvs) : ∃ a ws, rho[n]? = some a ∧ st[n]? = some (.dct kvs) ∧ H a = some (.dK ws) ∧ ba g.K rho H kvs ws := by
 unfold Cw at h
 split at h
 · rename_i kvs' e
   cases h
   have hl : n < rho.length := by rw [s.len]; exact (List.getElem?_eq_some_iff.mp e).1
   obtain ⟨ws, h1, h2⟩ := s.cells n rho[n] _ (List.getElem?_eq_getElem hl) e
   exact ⟨rho[n], ws, List.getElem?_eq_getElem hl, e, h1, h2⟩
 · cases h
def Qn (g : G) (neg : Bool) : R2 := fun x y H Q => ∃ rho st a b z, g.Sto rho st H ∧ g.Rep rho H a x ∧ g.Rep rho H b y ∧ inD st a b = some z ∧ Q (.bl (if neg then !z else z)) H
theorem Zj {st : Sto} {a b : D} {z : Bool} (h : inS st a b = some z) : ∃ p ys, au st 40 a = some p ∧ (au st 41 b = some (.list ys) ∨ au st 41 b = some (.tuple ys)) ∧ z = ys.any fun y => PyData.eqv y p := by
 unfold inS at h
 split at h
 · rename_i x ys e1 e2; cases h; exact ⟨x, ys, e1, .inl e2, rfl⟩
 · rename_i x ys e1 e2; cases h; exact ⟨x, ys, e1, .inr e2, rfl⟩
 · cases h
theorem kl {A : Around} (hu : A.units + 64 < cLine) {a b : Nat} (hb : b ≤ 40) : A.units + 1 + min a b < cLine := by
 have : min a b ≤ b := Nat.min_le_right _ _
 omega
theorem zk (hK : X.K = g.K) (hu : X.A.units + 64 < cLine) {pins : List (Addr × Obj)} {s : Shared} {sg : L2.St} {H : Hp} {rho : List Addr} {st : Sto} {a b : D} {x y : V} {v u : Value} {z : Bool} {Q : VK} (I : Inv X pins sg H s) (S : g.Sto rho st H) (r1 : g.Rep rho H a x) (r2 : g.Rep rho H b y) (rx : RelV x v) (ry : RelV y u)
 (h : inS st a b = some z) : (Q (.bl z) H → wpAny (model X.prog X.w) X.A (compareOp .In v u) (EP X pins sg Q) X.xe s) ∧ (Q (.bl (!z)) H → wpAny (model X.prog X.w) X.A (compareOp .NotIn v u) (EP X pins sg Q) X.xe s) := by
 obtain ⟨p, ys, e1, e2, rfl⟩ := Zj h
 obtain ⟨as, h1⟩ := reads hK I S 40 a x v p r1 rx e1
 obtain ⟨c1, c2⟩ := Kh 40 a p e1
 rcases e2 with e2 | e2
 · obtain ⟨bs, h2⟩ := reads hK I S 41 b y u _ r2 ry e2
   obtain ⟨c3, c4⟩ := Kh 41 b _ e2
   exact ⟨fun q => PySem.SeqAt.in_list_reads h2 h1 c3 c1 (kl hu c2) ⟨.bl _, H, I, rfl, q⟩, fun q => PySem.SeqAt.notIn_list_reads h2 h1 c3 c1 (kl hu c2) ⟨.bl _, H, I, rfl, q⟩⟩
 · obtain ⟨bs, h2⟩ := reads hK I S 41 b y u _ r2 ry e2
   obtain ⟨c3, c4⟩ := Kh 41 b _ e2
   exact ⟨fun q => PySem.SeqAt.in_tuple_reads h2 h1 c3 c1 (kl hu c2) ⟨.bl _, H, I, rfl, q⟩, fun q => PySem.SeqAt.notIn_tuple_reads h2 h1 c3 c1 (kl hu c2) ⟨.bl _, H, I, rfl, q⟩⟩
theorem Zk (hK : X.K = g.K) (hw : g.cls.w = X.w) (hu : X.A.units + 64 < cLine) {pins : List (Addr × Obj)} {s : Shared} {sg : L2.St} {H : Hp} {rho : List Addr} {st : Sto} {a b : D} {x y : V} {v u : Value} {z : Bool} {Q : VK} (I : Inv X pins sg H s) (S : g.Sto rho st H) (r1 : g.Rep rho H a x) (r2 : g.Rep rho H b y) (rx : RelV x v) (ry : RelV y u)
 (h : inD st a b = some z) : (Q (.bl z) H → wpAny (model X.prog X.w) X.A (compareOp .In v u) (EP X pins sg Q) X.xe s) ∧ (Q (.bl (!z)) H → wpAny (model X.prog X.w) X.A (compareOp .NotIn v u) (EP X pins sg Q) X.xe s) := by
 cases b with
 | str t =>
  simp only [inD] at h
  cases a with
  | str w =>
   cases h
   cases Bs.mp r1; cases Bs.mp r2
   exact ⟨fun q => wx pins s sg H _ _ v u Q I rx ry ⟨_, _, rfl, rfl, q⟩, fun q => Wy pins s sg H _ _ v u Q I rx ry ⟨_, _, rfl, rfl, q⟩⟩
  | _ => cases h
 | _ => exact zk hK hu I S r1 r2 rx ry h
theorem qo (hK : X.K = g.K) (hw : g.cls.w = X.w) (hu : X.A.units + 64 < cLine) : OpR X (compareOp .In) (Qn g false) := by
 rintro pins s sg H x y v u Q I rx ry ⟨rho, st, a, b, z, S, r1, r2, h, q⟩
 exact (Zk hK hw hu I S r1 r2 rx ry h).1 q
theorem Qo {sg : L2.St} {H : Hp} {Q : VK} (q : tE g (.cm .inL a' b') sg H Q) : tOp (Qn g false) (tE g a') (tE g b') sg H Q := by
 obtain ⟨rho, st, env, s, n, q⟩ := q
 simp only [Ab] at q
 refine two (k := cmD .inL) ?_ s n q
 intro x y u v st rho H Q s rx ry q
 simp only [cmD] at q
 cases e : inD st x y with
 | none => rw [e] at q; exact q.elim
 | some z =>
  rw [e] at q
  exact ⟨rho, st, x, y, z, s, rx, ry, e, (show ar g rho H Q (.bl _) st from q) _ H rho (.refl _ _) s (bg.mpr rfl)⟩
theorem qp (hK : X.K = g.K) (hw : g.cls.w = X.w) (hu : X.A.units + 64 < cLine) (ha : Sd g X a a') (hb : Sd g X b b') (hm : behindInMarks .In b = false := by rfl) : Sd g X (.Compare a [.In] [b] pos) (.cm .inL a' b') := bc (Ly (qo hK hw hu) ha hb hm) fun sg H Q q => Qo q
theorem zl (hK : X.K = g.K) (hw : g.cls.w = X.w) (hu : X.A.units + 64 < cLine) (ha : Sd g X a a') (hb : Sd g X b b') (hm : behindInMarks .In b = false := by rfl) : SdT g X (.Compare a [.In] [b] pos) (.cm .inL a' b') := dw (Gd (qo hK hw hu) ha hb hm) fun sg H Q q => Qo (cmT q)
theorem Zl (r : g.RepL rho H ds vs) (h : atD ds i = some d) : ∃ v, atI vs i = some v ∧ g.Rep rho H d v := by
 unfold atD atI at h
 have hl := r.length
 cases e : ixN ds.length i with
 | none => rw [e] at h; cases h
 | some j =>
  rw [e] at h
  obtain ⟨v, e1, r1⟩ := r.get h
  refine ⟨v, ?_, r1⟩
  unfold atI
  rw [← hl, e]
  exact e1
theorem Au (hK : X.K = g.K) (hw : g.cls.w = X.w) (hu : X.A.units + 64 < cLine) (ha : Sd g X a a') (hb : Sd g X b b') (hs : Kc b) : Sd g X (.Subscript a b pos) (.ix a' b') := bc (Md Ya ha hb hs) fun sg H Q q => by
 obtain ⟨rho, st, env, s, n, q⟩ := q
 simp only [Ab] at q
 refine two (k := ixD) ?_ s n q
 intro x y u v st rho H Q s rx ry q
 have seq : RQ g (ixS x y st) (ar g rho H Q) rho H → rIx X.K u v H Q := by
  intro q
  cases y with
  | int i =>
   simp only [ixS] at q
   split at q
   · rename_i xs e
     split at q
     · rename_i d ed
       obtain ⟨p, vs, rfl, sq, rl⟩ := mn s rx e
       obtain ⟨w, e1, r1⟩ := Zl rl ed
       have fin : Q w H := (show ar g rho H Q d st from q) _ H rho (.refl _ _) s r1
       rw [← hK] at sq
       rcases sq with sq | sq
       · exact .inl ⟨p, vs, i, w, rfl, aw.mp ry, sq, e1, fin⟩
       · exact .inr (.inl ⟨p, vs, i, w, rfl, aw.mp ry, sq, e1, fin⟩)
     · exact q.elim
   · split at q
     · rename_i z _
       split at q
       · rename_i c ec
         split at q
         · rename_i hz
           exact .inr (.inr ⟨_, i, c, Bs.mp rx, aw.mp ry, hz, ec, (show ar g rho H Q _ st from q) _ H rho (.refl _ _) s (Bs.mpr rfl)⟩)
         · exact q.elim
       · exact q.elim
     · exact q.elim
  | _ => exact q.elim
 exact seq q
variable {g : G} {X : Cx} {a b c : Expr} {a' b' c' : E} {pos : Pos} {rest es : List Expr} {es' : Es}
theorem gj {op} (h : Sd g X a a') : Sd g X (.BoolOp op [a] pos) a' := Vs h
theorem Fo (ha : Sd g X a a') (hb : Sd g X (.BoolOp .And (b :: rest) pos) b') : Sd g X (.BoolOp .And (a :: b :: rest) pos) (.andE a' b') := bc (vt ha hb) fun sg H Q q => by
 obtain ⟨rho, st, env, s, n, q⟩ := q
 simp only [Ab] at q
 refine step s n q fun x st1 u H1 r1 k1 s1 n1 rp q1 => ?_
 cases x with
 | bl t =>
  cases t with
  | true => exact ⟨true, bg.mp rp, Hb ⟨r1, st1, env, s1, n1, RQ.mono (.refl _ _) q1 fun _ _ p => p.mono k1⟩⟩
  | false => exact ⟨false, bg.mp rp, Ha ((show ar g rho H Q (.bl false) st1 from q1) _ H1 r1 k1 s1 (bg.mpr rfl))⟩
 | _ => exact q1.elim
theorem Mp (ha : Sd g X a a') : Sd g X (.UnaryOp .Not a pos) (.notE a') := bc (Vt ha) fun sg H Q q => by
 obtain ⟨rho, st, env, s, n, q⟩ := q
 simp only [Ab] at q
 refine step s n q fun x st1 u H1 r1 k1 s1 n1 rp q1 => ?_
 cases x with
 | bl t => exact ⟨t, bg.mp rp, (show ar g rho H Q (.bl (!t)) st1 from q1) _ H1 r1 k1 s1 (bg.mpr rfl)⟩
 | _ => exact q1.elim
theorem Qp (hc : SdT g X c c') (ha : Sd g X a a') (hb : Sd g X b b') : Sd g X (.IfExp c a b pos) (.ifE c' a' b') := bc (Vu hc ha hb) fun sg H Q q => by
 obtain ⟨rho, st, env, s, n, q⟩ := q
 simp only [Ab] at q
 refine stepT s n q fun t st1 H1 r1 k1 s1 n1 q1 => ?_
 cases t with
 | true => exact Hb ⟨r1, st1, env, s1, n1, RQ.mono (.refl _ _) q1 fun _ _ p => p.mono k1⟩
 | false => exact Ha ⟨r1, st1, env, s1, n1, RQ.mono (.refl _ _) q1 fun _ _ p => p.mono k1⟩
theorem bts {r : List V → Hp → VK → Prop} {f : Bt} (hr : ∀ ds vs st rho H Q, g.Sto rho st H → g.RepL rho H ds vs → RQ g (btD f ds st) (ar g rho H Q) rho H → r vs H Q) {sg : L2.St} {H : Hp} {Q : VK} (q : tE g (.bt f es') sg H Q) : tCB r (tEs g es') sg H Q := by
 obtain ⟨rho, st, env, s, n, q⟩ := q
 simp only [Ab] at q
 refine Ej s n q fun ds st1 vs H1 r1 k1 s1 n1 rps q1 => ?_
 exact hr ds vs st1 r1 H1 Q s1 rps (RQ.mono (.refl _ _) q1 fun _ _ p => p.mono k1)
theorem Hf {rho : List Addr} {H : Hp} {d : D} {vs : List V} (r : g.RepL rho H [d] vs) : ∃ v, vs = [v] ∧ g.Rep rho H d v := by
 simp only [RepL] at r
 obtain ⟨v, t, rfl, r1, rfl⟩ := r
 exact ⟨v, rfl, r1⟩
theorem Kl (q : RQ g (btD f ds st) ok rho H) : ∃ d, ds = [d] := by
 cases ds with
 | nil => cases f <;> exact q.elim
 | cons d t =>
  cases t with
  | nil => exact ⟨d, rfl⟩
  | cons e u =>
   exfalso
   cases f <;> (cases d <;> exact q.elim)
theorem qq {p : Pos} (hg : Gl X "abs") (hm : X.mg "abs" = none) (ha : SdL g X (e :: es) es') (he : starEach (e :: es) X.env = (false, eval e X.env) :: starEach es X.env := by rfl) (hpl : (backTo pos (starEach es X.env)).any (·.1) = false := by rfl) :
 Sd g X (.Call (.Name "abs" p) (e :: es) [] pos) (.bt .absB es') := bc (jj xc hg hm rfl ha (by decide) (by decide) he hpl) fun sg H Q q => by
 refine bts (f := .absB) (fun ds vs st rho H Q s r q => ?_) q
 obtain ⟨d, rfl⟩ := Kl q
 obtain ⟨v, rfl, r1⟩ := Hf r
 cases d with
 | int i => cases aw.mp r1; exact ⟨i, rfl, q _ H rho (.refl _ _) s (aw.mpr rfl)⟩
 | _ => exact q.elim
theorem Cp {p : Pos} (hK : X.K = g.K) (hg : Gl X "len") (hm : X.mg "len" = none) (ha : SdL g X (e :: es) es') (he : starEach (e :: es) X.env = (false, eval e X.env) :: starEach es X.env := by rfl) (hpl : (backTo pos (starEach es X.env)).any (·.1) = false := by rfl) :
 Sd g X (.Call (.Name "len" p) (e :: es) [] pos) (.bt .lenB es') := bc (jj (dm.or yb Yb) hg hm rfl ha (by decide) (by decide) he hpl) fun sg H Q q => by
 refine bts (f := .lenB) (fun ds vs st rho H Q s r q => ?_) q
 obtain ⟨d, rfl⟩ := Kl q
 obtain ⟨v, rfl, r1⟩ := Hf r
 have seq : ∀ xs, fh st d = some xs → ar g rho H Q (.int xs.length) st → ∃ p ys, [v] = [V.ref p] ∧ (SqL X.K H p ys ∨ SqT X.K H p ys) ∧ Q (.int ys.length) H := by
  intro xs e q
  obtain ⟨p, ws, rfl, sq, rl⟩ := mn s r1 e
  refine ⟨p, ws, rfl, by rw [hK]; exact sq, ?_⟩
  rw [← rl.length]
  exact q _ H rho (.refl _ _) s (aw.mpr rfl)
 cases d with
 | tup xs => exact .inl (seq xs rfl q)
 | loc n =>
  simp only [btD] at q
  split at q
  · rename_i xs e
    exact .inl (seq xs e q)
  · exact q.elim
 | str z =>
  simp only [btD] at q
  split at q
  · rename_i hz
    cases Bs.mp r1
    exact .inr ⟨z, rfl, hz, (show ar g rho H Q (.int _) st from q) _ H rho (.refl _ _) s (aw.mpr rfl)⟩
  · exact q.elim
 | _ => exact q.elim
theorem Iq {p : Pos} (hK : X.K = g.K) (hg : Gl X "list") (hm : X.mg "list" = none) (ha : SdL g X (e :: es) es') (he : starEach (e :: es) X.env = (false, eval e X.env) :: starEach es X.env := by rfl) (hpl : (backTo pos (starEach es X.env)).any (·.1) = false := by rfl) :
 Sd g X (.Call (.Name "list" p) (e :: es) [] pos) (.bt .listB es') := bc (Xt yc hg hm rfl ha (by decide) (by decide) he hpl) fun sg H Q q => by
 refine bts (f := .listB) (fun ds vs st rho H Q s r q => ?_) q
 obtain ⟨d, rfl⟩ := Kl q
 obtain ⟨v, rfl, r1⟩ := Hf r
 simp only [btD] at q
 split at q
 · rename_i xs e
   obtain ⟨p, ws, rfl, sq, rl⟩ := mn s r1 e
   exact ⟨p, ws, rfl, by rw [hK]; exact sq, fun l hl => Kg s rl hl q⟩
 · exact q.elim
def spD (K : W.Frag) (cls : CW) (np : Nat) (run : List D → Sto → Res D) : Sp := fun vs H Q Ex => vs.length = np ∧ ∃ rho st ds, StoRep K cls rho st H ∧ RepL K rho H ds vs ∧
 match run ds st with
 | .ok d st' => ∀ v H' rho', Keep K rho H rho' H' → StoRep K cls rho' st' H' → Rep K rho' H' d v → Q v H'
 | .exc k st' => ∀ H' rho', Keep K rho H rho' H' → StoRep K cls rho' st' H' → ∀ ch, (k = 2 → ch = none) → Ex (.ref (cls k)) ch H'
 | .bad => False
theorem Ao {p : Pos} 
 (F : FnOk X.prog X.w X.K X.mg X.base (CXd X.prog X.w) k fa fd ps (spD g.K g.cls np (g.call f))) (hr : Room k X.A) (hg : Gl X x) (hm : X.mg x = some (.ref fa)) (hk : W.keepIn X.K (.ref fa) = true) (hb : Binds X.K fd ps ds) (hd : Vals dvs ds)
 (hdv : ∀ rho H, g.RepL rho H dv dvs) (hx : Passes (CXd X.prog X.w) X g.xk) (hl : ∀ ds st, ds.length ≠ np → g.call f ds st = .bad) (ha : SdL g X (e :: es) es') (hdb : (x == ("__debug__" : Str)) = false := by decide)
 (he : starEach (e :: es) X.env = (false, eval e X.env) :: starEach es X.env := by rfl) (hpl : (backTo pos (starEach es X.env)).any (·.1) = false := by rfl) : Sd g X (.Call (.Name x p) (e :: es) [] pos) (.call f es' dv) :=
 bc (xo F hr hg hm hk hb hd hx ha hdb he hpl) fun sg H Q q => by
  obtain ⟨rho, st, env, s, n, q⟩ := q
  simp only [Ab] at q
  refine Ej s n q fun ds st1 vs H1 r1 k1 s1 n1 rps q1 => ?_
  have rr := rps.append (hdv r1 H1)
  have hlen : (ds ++ dv).length = np := Decidable.byContradiction fun z => by rw [hl _ _ z] at q1; exact q1
  refine ⟨by rw [← rr.length]; exact hlen, r1, st1, ds ++ dv, s1, rr, ?_⟩
  revert q1
  cases g.call f (ds ++ dv) st1 with
  | ok d st' => exact fun q1 v H' rho' k s' r => (show ar g rho H Q d st' from q1) v H' rho' (k1.trans k) s' r
  | exc c st' => exact fun q1 H' rho' k s' => q1 H' rho' k s'
  | bad => exact fun q1 => q1
theorem km (ha : SdT g X a a') : PW X (.BoolOp .And [a] pos) (tT g a') := vo ha
theorem dn (ha : SdT g X a a') : PW X (.BoolOp .Or [a] pos) (tT g a') := Vo ha
theorem Qq (h : PW X e t) (hi : ∀ sg H Q, t' sg H Q → t sg H Q) : PW X e t' := fun whole pins s sg H Q I q => h whole pins s sg H Q I (hi _ _ _ q)
theorem Jm (ha : SdT g X a a') (hb : PW X (.BoolOp .And (b :: rest) pos) (tT g b')) : PW X (.BoolOp .And (a :: b :: rest) pos) (tT g (.andE a' b')) := Qq (vp ha hb) fun sg H Q q => by
 obtain ⟨rho, st, env, s, n, q⟩ := q
 simp only [aq] at q
 refine stepT s n q fun t st1 H1 r1 k1 s1 n1 q1 => ?_
 cases t with
 | true => exact Hb ⟨r1, st1, env, s1, n1, RQ.mono (.refl _ _) q1 fun _ _ p => p.mono k1⟩
 | false => exact Ha ((show dc g rho H Q false st1 from q1) H1 r1 k1 s1)
theorem Cg (ha : SdT g X a a') (hb : PW X (.BoolOp .Or (b :: rest) pos) (tT g b')) : PW X (.BoolOp .Or (a :: b :: rest) pos) (tT g (.orE a' b')) := Qq (Vp ha hb) fun sg H Q q => by
 obtain ⟨rho, st, env, s, n, q⟩ := q
 simp only [aq] at q
 refine stepT s n q fun t st1 H1 r1 k1 s1 n1 q1 => ?_
 cases t with
 | true => exact Hb ((show dc g rho H Q true st1 from q1) H1 r1 k1 s1)
 | false => exact Ha ⟨r1, st1, env, s1, n1, RQ.mono (.refl _ _) q1 fun _ _ p => p.mono k1⟩
theorem Bo (ha : SdT g X a a') : SdT g X (.UnaryOp .Not a pos) (.notE a') := dw (vq ha) fun sg H Q q => by
 obtain ⟨rho, st, env, s, n, q⟩ := q
 simp only [aq] at q
 refine stepT s n q fun t st1 H1 r1 k1 s1 n1 q1 => ?_
 exact (show dc g rho H Q (!t) st1 from q1) H1 r1 k1 s1
theorem zm (s : g.Sto rho st H) (r : g.Rep rho H d v) (h : truth st d = some k) : ma g.K v H k := by
 cases d with
 | non => cases Dc.mp r; simp [truth] at h; subst h; rfl
 | bl b => cases bg.mp r; simp [truth] at h; subst h; rfl
 | int i => cases aw.mp r; simp only [truth] at h; cases h; rfl
 | str x =>
  cases Bs.mp r
  simp only [truth] at h
  split at h
  · rename_i z; cases h; exact ⟨z, rfl⟩
  · cases h
 | tup ds =>
  obtain ⟨a, vs, rfl, q, rl⟩ := bz.mp r
  simp only [truth] at h; cases h
  have hl := rl.length
  exact .inr (.inl ⟨vs, q, by cases ds <;> cases vs <;> simp_all⟩)
 | loc n =>
  simp only [truth] at h
  cases el : av st n with
  | none => rw [el] at h; cases h
  | some ds =>
   rw [el] at h; cases h
   obtain ⟨a, vs, h1, q, rl⟩ := Ek s el
   obtain ⟨a2, h2, rfl⟩ := bh.mp r
   rw [h1] at h2; cases h2
   have hl := rl.length
   exact .inl ⟨vs, q, by cases ds <;> cases vs <;> simp_all⟩
theorem bp (hK : X.K = g.K) (ha : Sd g X a a') (hev : ∀ env st, aq g.tab g.call a' env st = (Ab g.tab g.call a' env st).bind fun d st => match truth st d with | some b => .ok b st | none => .bad)
 (he : ∀ whole, isTrue a X.env whole = (do let v ← whole; standAt a.pos; holding [v] (truthy v))) : SdT g X a a' := dw (xb ha he) fun sg H Q q => by
 obtain ⟨rho, st, env, s, n, q⟩ := q
 rw [hev] at q
 refine step s n q fun d st1 v H1 r1 k1 s1 n1 rp q1 => ?_
 cases e : truth st1 d with
 | none => rw [e] at q1; exact q1.elim
 | some k =>
  rw [e] at q1
  exact ⟨k, by rw [hK]; exact zm s1 rp e, (show dc g rho H Q k st1 from q1) H1 r1 k1 s1⟩
variable {g : G} {X : Cx} {a b c : Expr} {a' b' c' : E} {pos : Pos} {rest es : List Expr} {es' : Es}
def kb (t T : String) : Option Bool := if ((Value.type t == Value.type T) = true) then some true else if W.kitMeta T = true then (fastBuiltinMro t).map (·.contains (.type T)) else none
theorem Zm (K : W.Frag) (t T : String) : W.kitOne K (.type t) (.type T) = kb t T := rfl
theorem Zn (K : W.Frag) (ht : t ∈ ["NoneType", "bool", "int", "str", "tuple", "list", "dict"]) (hT : T ∈ ["bool", "int", "tuple", "list", "str", "dict"]) : W.kitOne K (.type t) (.type T) = subB t T := by
 rw [Zm]
 simp only [List.mem_cons, List.mem_nil_iff, or_false] at ht hT
 rcases ht with rfl | rfl | rfl | rfl | rfl | rfl | rfl <;> rcases hT with rfl | rfl | rfl | rfl | rfl | rfl <;> first | rfl | kernel_rfl | decide +kernel
def mq (g : G) (K : W.Frag) (T : Ty) (u : Value) : List V → Hp → VK → Prop := fun xs H Q => ∃ rho st d x cv t k, xs = [x, cv] ∧ RelV cv u ∧ g.Sto rho st H ∧ g.Rep rho H d x ∧ Di st d = some t ∧ Gg g.tab t T = some k ∧ Q (.bl k) H
theorem qr (hK : X.K = g.K) (hu : ∀ v w, RelV v u → RelV v w → w = u) (hB : ∀ t k, t ∈ ["NoneType", "bool", "int", "str", "tuple", "list", "dict"] → Gg g.tab (.b t) T = some k → W.kitOne X.K (.type t) u = some k)
 (hO : ∀ n k, g.tab n T = some k → ExcC X.K (g.cls n) ∧ W.kitOne X.K (.ref (g.cls n)) u = some k) : dm X (.builtin "isinstance") (mq g X.K T u) := by
 intro pins s sg H xs us Q I rv h
 obtain ⟨rho, st, d, x, cv, t, k, rfl, rc, S, r, ht, hs, q⟩ := h
 obtain ⟨u1, u2, rfl, ru1, ru2⟩ := vals2 rv
 obtain rfl := hu cv u2 rc ru2
 have fin : ∀ tk, EP X pins sg Q (.bool k) { s with toks := tk } := fun tk => ⟨.bl k, H, I.tok tk, rfl, q⟩
 cases d with
 | non =>
  cases Dc.mp r; cases ru1; cases ht
  exact W.kia_one W.kitx_none I.kIn True.intro (hB _ _ (by simp) hs) (fun z => nomatch z) fin
 | bl y =>
  cases bg.mp r; cases ru1; cases ht
  exact W.kia_one W.kitx_bool I.kIn True.intro (hB _ _ (by simp) hs) (fun z => nomatch z) fin
 | int i =>
  cases aw.mp r; obtain ⟨_, rfl⟩ := ru1; cases ht
  exact W.kia_one W.kitx_int I.kIn True.intro (hB _ _ (by simp) hs) (fun z => nomatch z) fin
 | str i =>
  cases Bs.mp r; obtain ⟨_, rfl⟩ := ru1; cases ht
  exact W.kia_one W.kitx_str I.kIn True.intro (hB _ _ (by simp) hs) (fun z => nomatch z) fin
 | tup ds =>
  obtain ⟨p, vs, rfl, sq, rl⟩ := bz.mp r
  cases ru1; cases ht
  rw [← hK] at sq
  obtain ⟨its, rvs, ⟨o, ho, hc, n', hd⟩, _⟩ := I.tuple sq
  exact W.kia_one W.kitx_tuple I.kIn ⟨o, ho, hc⟩ (hB _ _ (by simp) hs) (fun z => nomatch z) fin
 | loc n =>
  obtain ⟨p, hp, rfl⟩ := bh.mp r
  cases ru1
  simp only [Di] at ht
  cases ec : st[n]? with
  | none => rw [ec] at ht; cases ht
  | some cl =>
   rw [ec] at ht
   have cr := S.cells n p cl hp ec
   cases cl with
   | lst ds =>
    cases ht
    obtain ⟨vs, hH, _⟩ := cr
    obtain ⟨_, _, n', _, h1⟩ := (show bj X.prog X.w H s.heap p (.lst vs) from I.hok p _ hH)
    exact W.kia_one W.kitx_list I.kIn ⟨_, h1, rfl⟩ (hB _ _ (by simp) hs) (fun z => nomatch z) fin
   | frz ds =>
    cases ht
    obtain ⟨vs, hH, _⟩ := cr
    rcases hH with ⟨o, hH⟩ | ⟨o, its, n', hk, hc, _⟩
    · obtain ⟨_, _, _, n', _, h1⟩ := (show bj X.prog X.w H s.heap p (.frz o (.lst vs)) from I.hok p _ hH)
      exact W.kia_one W.kitx_list I.kIn ⟨_, h1, rfl⟩ (hB _ _ (by simp) hs) (fun z => nomatch z) fin
    · rw [← hK] at hk
      exact W.kia_one W.kitx_list I.kIn ⟨o, I.kIn _ _ hk, hc⟩ (hB _ _ (by simp) hs) (fun z => nomatch z) fin
   | dct kvs =>
    cases ht
    obtain ⟨ws, hH, _⟩ := cr
    obtain ⟨_, _, vs, _, o, es, ep, h1, h2, _⟩ := (show bj X.prog X.w H s.heap p (.dK ws) from I.hok p _ hH)
    exact W.kia_one W.kitx_dict I.kIn ⟨o, h1, h2.1⟩ (hB _ _ (by simp) hs) (fun z => nomatch z) fin
   | ins m fs => cases ht
   | dcn kvs =>
    cases ht
    obtain ⟨ws, hH, _⟩ := cr
    obtain ⟨⟨_, _, _, o, es, ep, h1, h2, _⟩, _⟩ := (show bj X.prog X.w H s.heap p (.ext _) from I.hok p _ hH)
    exact W.kia_one W.kitx_dict I.kIn ⟨o, h1, h2.1⟩ (hB _ _ (by simp) hs) (fun z => nomatch z) fin
   | dcf kvs =>
    cases ht
    obtain ⟨ws, u, hH, _⟩ := cr
    obtain ⟨_, _, _, vs, _, o, es, ep, h1, h2, _⟩ := (show bj X.prog X.w H s.heap p (.frz u (.dK ws)) from I.hok p _ hH)
    exact W.kia_one W.kitx_dict I.kIn ⟨o, h1, h2.1⟩ (hB _ _ (by simp) hs) (fun z => nomatch z) fin
   | dcg kvs =>
    cases ht
    obtain ⟨ws, u, hH, _⟩ := cr
    obtain ⟨_, ⟨_, _, _, o, es, ep, h1, h2, _⟩, _⟩ := (show bj X.prog X.w H s.heap p (.frz u (.ext _)) from I.hok p _ hH)
    exact W.kia_one W.kitx_dict I.kIn ⟨o, h1, h2.1⟩ (hB _ _ (by simp) hs) (fun z => nomatch z) fin
   | fnc i => cases ht
   | exn m =>
    cases ht
    have hH : H p = some (.ext (fj p (.ref (g.cls m)))) := cr
    obtain ⟨⟨o, ws, h1, h2, h3⟩, _⟩ := (show bj X.prog X.w H s.heap p (.ext (fj p (.ref (g.cls m)))) from I.hok p _ hH)
    obtain ⟨x1, x2⟩ := hO m k hs
    exact W.kia_one (Zh x1) I.kIn ⟨o, h1, h2⟩ x2 (fun z => nomatch z) fin
variable {g : G} {X : Cx} {a b c : Expr} {a' b' c' : E} {pos : Pos} {rest es : List Expr} {es' : Es}
theorem Qr (hc : RelV cv u) (q : tE g (.isi a' T) sg H Q) : tCB (mq g X.K T u) (kc (tE g a') (kc (tC cv) Jh)) sg H Q := by
 obtain ⟨rho, st, env, s, n, q⟩ := q
 simp only [Ab] at q
 refine step s n q fun d st1 v H1 r1 k1 s1 n1 rp q1 => ?_
 show mq g X.K T u [v, cv] H1 Q
 cases et : Di st1 d with
 | none => rw [et] at q1; exact q1.elim
 | some t =>
  rw [et] at q1
  simp only [Option.bind_some] at q1
  cases ek : Gg g.tab t T with
  | none => rw [ek] at q1; exact q1.elim
  | some k =>
   rw [ek] at q1
   exact ⟨r1, st1, d, v, cv, t, k, rfl, hc, s1, rp, et, ek, (show ar g rho H Q (.bl k) st1 from q1) _ H1 r1 k1 s1 (bg.mpr rfl)⟩
theorem Ci {p p2 : Pos} (hK : X.K = g.K) (hT : T ∈ ["bool", "int", "tuple", "list", "str", "dict"]) (hO : ∀ n, g.tab n (.b T) = none) (hg : Gl X "isinstance") (hm : X.mg "isinstance" = none) (hg2 : Gl X x) (hm2 : X.mg x = none) (hv : bootBuiltins x = some (.type T)) (ha : Sd g X a a')
 (hn : x ≠ "__name__" := by decide) (hd : (x == ("__debug__" : Str)) = false := by decide) (he : starEach [a, .Name x p2] X.env = (false, eval a X.env) :: starEach [.Name x p2] X.env := by rfl) (he2 : starEach [.Name x p2] X.env = (false, eval (.Name x p2) X.env) :: starEach [] X.env := by rfl) (hpl : (backTo pos (starEach [.Name x p2] X.env)).any (·.1) = false := by rfl) :
 Sd g X (.Call (.Name "isinstance" p) [a, .Name x p2] [] pos) (.isi a' (.b T)) := by
 have hc := qr (X := X) (T := .b T) (u := .type T) hK (fun v w h1 h2 => by cases v <;> first | (cases h1; exact h2) | (obtain ⟨_, z⟩ := h1; cases z) | cases h1) (fun t k ht hs => by rw [Zn X.K ht hT]; exact hs) (fun n k h => by rw [hO n] at h; cases h)
 exact bc (jj hc hg hm rfl (Ge ha (Ge (Vm (v := .ty T) hg2 hm2 hv rfl hn hd) ji he2) he) (by decide) (by decide) he hpl) fun sg H Q q => Qr (cv := .ty T) rfl q
theorem Km {p p2 : Pos} (hK : X.K = g.K) (hO : ∀ n k, g.tab n (.o m) = some k → ExcC X.K (g.cls n) ∧ W.kitOne X.K (.ref (g.cls n)) (.ref (g.cls m)) = some k) (hg : Gl X "isinstance") (hm : X.mg "isinstance" = none) (hg2 : Gl X x) (hm2 : X.mg x = some (.ref (g.cls m))) (ha : Sd g X a a')
 (hd : (x == ("__debug__" : Str)) = false := by decide) (he : starEach [a, .Name x p2] X.env = (false, eval a X.env) :: starEach [.Name x p2] X.env := by rfl) (he2 : starEach [.Name x p2] X.env = (false, eval (.Name x p2) X.env) :: starEach [] X.env := by rfl) (hpl : (backTo pos (starEach [.Name x p2] X.env)).any (·.1) = false := by rfl) :
 Sd g X (.Call (.Name "isinstance" p) [a, .Name x p2] [] pos) (.isi a' (.o m)) := by
 have hc := qr (X := X) (T := .o m) (u := .ref (g.cls m)) hK (fun v w h1 h2 => by cases v <;> first | (cases h1; exact h2) | (obtain ⟨_, z⟩ := h1; cases z) | cases h1) (fun t k ht hs => by cases hs) hO
 exact bc (jj hc hg hm rfl (Ge ha (Ge (jh (v := .ref (g.cls m)) hg2 hm2 rfl hd) ji he2) he) (by decide) (by decide) he hpl) fun sg H Q q => Qr (cv := .ref (g.cls m)) rfl q
variable {g : G} {X : Cx} {a b c : Expr} {a' b' c' : E} {pos : Pos} {rest es : List Expr} {es' : Es} {F : Nat}
def Bc (g : G) (rho : List Addr) (H : Hp) (D : Ends) (f : Fl) (st : Sto) : Prop := match f with
 | .next env => ∀ sg H' rho', g.Keep rho H rho' H' → g.Sto rho' st H' → g.Env rho' H' env sg → D.nx sg H'
 | .brk env => ∀ sg H' rho', g.Keep rho H rho' H' → g.Sto rho' st H' → g.Env rho' H' env sg → D.bk sg H'
 | .cont env => ∀ sg H' rho', g.Keep rho H rho' H' → g.Sto rho' st H' → g.Env rho' H' env sg → D.ct sg H'
 | .ret d => ∀ v H' rho', g.Keep rho H rho' H' → g.Sto rho' st H' → g.Rep rho' H' d v → D.rt v H'
theorem Bc.mono {rho rho' : List Addr} {H H' : Hp} {D : Ends} {f : Fl} {st : Sto} (k : g.Keep rho H rho' H') (h : Bc g rho H D f st) : Bc g rho' H' D f st := by
 cases f <;> exact fun x H2 r2 k2 => h x H2 r2 (k.trans k2)
def tS (g : G) (F : Nat) (s : S) : TS := fun D sg H => ∃ rho st env, g.Sto rho st H ∧ g.Env rho H env sg ∧ RQ g (Ak g.tab g.call F s env st) (Bc g rho H D) rho H
def tSs (g : G) (F : Nat) (s : Ss) : TS := fun D sg H => ∃ rho st env, g.Sto rho st H ∧ g.Env rho H env sg ∧ RQ g (Ah g.tab g.call F s env st) (Bc g rho H D) rho H
def SdS (g : G) (X : Cx) (F : Nat) (st : Stmt) (s : S) : Prop := PS X st (tS g F s)
def De (g : G) (X : Cx) (F : Nat) (st : List Stmt) (s : Ss) : Prop := PSs X st (tSs g F s)
theorem Ct {t t' : TS} {e : Stmt} (h : PS X e t) (hi : ∀ D sg H, t' D sg H → t D sg H) : PS X e t' := fun pins s sg H D I q => h pins s sg H D I (hi _ _ _ q)
theorem Qs (h : PSs X e t) (hi : ∀ D sg H, t' D sg H → t D sg H) : PSs X e t' := fun pins s sg H D I q => h pins s sg H D I (hi _ _ _ q)
theorem Ae : De g X F [] .nil := Qs Vx fun D sg H q => by
 obtain ⟨rho, st, env, s, n, q⟩ := q
 exact (show Bc g rho H D (.next env) st from q) sg H rho (.refl _ _) s n
theorem Ac (h : SdS g X F s1 s1') (t : De g X F r1 r1') : De g X F (s1 :: r1) (.cons s1' r1') := Qs (vy h t) fun D sg H q => by
 obtain ⟨rho, st, env, s, n, q⟩ := q
 refine ⟨rho, st, env, s, n, ?_⟩
 simp only [Ah] at q
 revert q
 cases Ak g.tab g.call F s1' env st with
 | bad => exact fun q => q
 | exc c st1 => exact fun q => q
 | ok f st1 =>
  simp only [Bj]
  cases f with
  | next env1 => exact fun q sg1 H1 rho1 k1 s1 n1 => ⟨rho1, st1, env1, s1, n1, RQ.mono k1 q fun f st p => Bc.mono k1 p⟩
  | ret d => exact fun q => q
  | brk env1 => exact fun q => q
  | cont env1 => exact fun q => q
theorem Be (hN : X.N.Nodup) (hi : X.N[i]? = some x) (hx : Loc X.env.scope x) (he : Sd g X e e') (hs : swapsWith e (some (.Name x pos')) pos.line X.env = pure false := by rfl) (hf : X.fn x = true ∨ X.env.scope.names.lookup x = some .local := by first | exact .inl rfl | exact .inr rfl | assumption) :
 SdS g X F (.Assign [.Name x pos'] e pos) (.set i e') := Ct (wc hN hi hx he hs hf) fun D sg H q => by
 obtain ⟨rho, st, env, s, n, q⟩ := q
 simp only [Ak] at q
 refine step s n q fun d st1 v H1 r1 k1 s1 n1 rp q1 => ?_
 split at q1
 · exact (show Bc g rho H D (.next _) st1 from q1) _ H1 r1 k1 s1 (n1.set i rp)
 · exact q1.elim
theorem Ap (he : Sd g X e e') : SdS g X F (.Return (some e) pos) (.ret e') := Ct (wa he) fun D sg H q => by
 obtain ⟨rho, st, env, s, n, q⟩ := q
 simp only [Ak] at q
 refine step s n q fun d st1 v H1 r1 k1 s1 n1 rp q1 => ?_
 exact (show Bc g rho H D (.ret d) st1 from q1) v H1 r1 k1 s1 rp
theorem Bm (he : Sd g X e e') (hs : swapsWith e none pos.line X.env = pure false := by rfl) : SdS g X F (.Expr e pos) (.ex e') := Ct (vz he hs) fun D sg H q => by
 obtain ⟨rho, st, env, s, n, q⟩ := q
 simp only [Ak] at q
 refine step s n q fun d st1 v H1 r1 k1 s1 n1 rp q1 => ?_
 exact (show Bc g rho H D (.next env) st1 from q1) sg H1 r1 k1 s1 n1
theorem Aw (hc : SdT g X c c') (hx : De g X F x x') (hy : De g X F y y') : SdS g X F (.If c x y pos) (.ifS c' x' y') := Ct (wb hc hx hy) fun D sg H q => by
 obtain ⟨rho, st, env, s, n, q⟩ := q
 simp only [Ak] at q
 refine stepT s n q fun t st1 H1 r1 k1 s1 n1 q1 => ?_
 cases t with
 | true => exact Hb ⟨r1, st1, env, s1, n1, RQ.mono (.refl _ _) q1 fun _ _ p => p.mono k1⟩
 | false => exact Ha ⟨r1, st1, env, s1, n1, RQ.mono (.refl _ _) q1 fun _ _ p => p.mono k1⟩
theorem cj {x txt : Str} {j : Nat} {np ap cpos : Pos} (hth : Throws X g.xk) (hh : X.A.handled = none) (hg : Gl X x) (hn : W.nsIn X.K mainGlobals x = some (some (.ref (g.cls C)))) (hm : X.mg x = some (.ref (g.cls C)))
 (hq : W.excIn X.K (g.cls C) [.type "ValueError", .type "Exception", .type "BaseException", .type "object"] "ValueError.__new__" = true) (hd : (x == ("__debug__" : Str)) = false := by decide) :
 SdS g X F (.Raise (some (.Call (.Name x np) [.Constant (.str txt) j ap] [] cpos)) none pos) (.raiseS C) := Ct (Yy (bmB := []) hth hh hg hn hm hq hd) fun D sg H q => by
 obtain ⟨rho, st, env, s, n, q⟩ := q
 exact q H rho (.refl _ _) s none fun _ => rfl
theorem qt (hp : PassesOwn (model X.prog X.w) X.A X.env X.xe) (hc : SdT g X c c') (hx : De g X F x x') : SdS g X F (.While c x [] pos) (.whileS c' x') := Ct (Wf hp hc hx) fun D sg H q => by
 obtain ⟨rho, st, env, s, n, q⟩ := q
 simp only [Ak] at q
 refine ⟨fun m sg H => ∃ rho st env, g.Sto rho st H ∧ g.Env rho H env sg ∧ RQ g (whileLoop (aq g.tab g.call c') (Ah g.tab g.call F x') m env st) (Bc g rho H D) rho H, ⟨F, rho, st, env, s, n, q⟩, ?_⟩
 rintro m sg H ⟨rho, st, env, s, n, q⟩
 cases m with
 | zero => exact q.elim
 | succ m =>
  simp only [whileLoop] at q
  refine stepT s n q fun t st1 H1 r1 k1 s1 n1 q1 => ?_
  cases t with
  | false =>
   refine Ha ?_
   exact (show Bc g rho H D (.next env) st1 from q1) sg H1 r1 k1 s1 n1
  | true =>
   refine Hb ⟨fun sg H => ∃ rho st env, g.Sto rho st H ∧ g.Env rho H env sg ∧ RQ g (whileLoop (aq g.tab g.call c') (Ah g.tab g.call F x') m env st) (Bc g rho H D) rho H, fun sg' H' h => ⟨m, Nat.lt_succ_self m, h⟩, r1, st1, env, s1, n1, ?_⟩
   revert q1
   cases Ah g.tab g.call F x' env st1 with
   | bad => exact fun q => q
   | exc c st2 => exact fun q => q
   | ok f st2 =>
    simp only [Bj]
    cases f with
    | next env2 => exact fun q sg2 H2 r2 k2 s2 n2 => ⟨r2, st2, env2, s2, n2, RQ.mono k2 q fun f st p => Bc.mono (k1.trans k2) p⟩
    | cont env2 => exact fun q sg2 H2 r2 k2 s2 n2 => ⟨r2, st2, env2, s2, n2, RQ.mono k2 q fun f st p => Bc.mono (k1.trans k2) p⟩
    | brk env2 => exact fun q => Bc.mono (f := .next env2) k1 q
    | ret d => exact fun q => Bc.mono (f := .ret d) k1 q
variable {g : G} {X : Cx} {a b c : Expr} {a' b' c' : E} {pos : Pos} {rest es : List Expr} {es' : Es} {F : Nat}
def gs : List Nat → TGs
 | [] => lx
 | i :: r => jz (Jy i) (gs r)
def tg (K : W.Frag) (is : List Nat) (one : Bool) : TG := if one then (match is with | [i] => Jy i | _ => fun _ _ _ _ => False) else Lx K is.length (gs is)
theorem Qt : ∀ {is : List Nat} {ds : List D} {vs : List V} {env env' : Env} {sg : L2.St}, By is ds env = some env' → g.RepL rho H ds vs → g.Env rho H env sg → (∀ sg', g.Env rho H env' sg' → Q sg' H) → gs is vs sg H Q
 | [], [], vs, env, env', sg, e, r, n, h => by
  simp only [RepL] at r; subst r
  simp only [By] at e; cases e
  exact ⟨rfl, h sg n⟩
 | [], d :: t, vs, env, env', sg, e, r, n, h => by simp [By] at e
 | i :: t, [], vs, env, env', sg, e, r, n, h => by simp [By] at e
 | i :: t, d :: u, vs, env, env', sg, e, r, n, h => by
  simp only [RepL] at r
  obtain ⟨v, w, rfl, r1, r2⟩ := r
  simp only [By] at e
  split at e
  · exact ⟨v, w, rfl, Qt e r2 (n.set i r1) h⟩
  · cases e
theorem ir (e : store is one d env = some env') (r : g.Rep rho H d v) (n : g.Env rho H env sg) (h : ∀ sg', g.Env rho H env' sg' → Q sg' H) : tg g.K is one v sg H Q := by
 unfold store at e
 unfold tg
 cases one with
 | true =>
  rw [if_pos rfl] at e ⊢
  match is, e with
  | [i], e =>
   simp only [By] at e
   split at e
   · cases e; exact h _ (n.set i r)
   · cases e
  | [], e => simp [By] at e
  | i :: j :: t, e => simp [By] at e
 | false =>
  rw [if_neg Bool.false_ne_true] at e ⊢
  cases d with
  | tup ds =>
   obtain ⟨p, vs, rfl, q, rl⟩ := bz.mp r
   refine ⟨p, vs, rfl, q, ?_, Qt e rl n h⟩
   have : ∀ {is : List Nat} {ds : List D} {env env' : Env}, By is ds env = some env' → is.length = ds.length := by
    intro is
    induction is with
    | nil => intro ds env env' e; cases ds with
     | nil => rfl
     | cons _ _ => simp [By] at e
    | cons i t ih => intro ds env env' e; cases ds with
     | nil => simp [By] at e
     | cons _ _ =>
      simp only [By] at e
      split at e
      · simp [ih e]
      · cases e
   rw [← rl.length, this e]
  | _ => cases e
theorem df (hN : X.N.Nodup) (hi : X.N[i]? = some x) (hx : Loc X.env.scope x) (hf : X.fn x = true ∨ X.env.scope.names.lookup x = some .local := by first | exact .inl rfl | exact .inr rfl | assumption) : PG X (.Name x pos) (tg g.K [i] true) := di hN hi hx hf
theorem qu (he : Sd g X e e') (hg : PG X tgt (tg g.K is false)) (hs : swapsWithSole [tgt] e pos.line X.env = pure false := by rfl) (hw : swappedStores [tgt] e X.env = pure none := by rfl)
 (h1 : (assignEach [tgt] X.env).map (·.2) = [assign tgt X.env] := by rfl) : SdS g X F (.Assign [tgt] e pos) (.unp is e') := Ct (Wb he hg hs hw h1) fun D sg H q => by
 obtain ⟨rho, st, env, s, n, q⟩ := q
 simp only [Ak] at q
 refine step s n q fun d st1 v H1 r1 k1 s1 n1 rp q1 => ?_
 split at q1
 · rename_i env' e1
   exact ir e1 rp n1 fun sg' n' => (show Bc g rho H D (.next env') st1 from q1) sg' H1 r1 k1 s1 n'
 · exact q1.elim
theorem Qu {kt k2 pt2} (hc : X.calm = true) (hN : X.N.Nodup) (hi : X.N[i]? = some x) (hj : X.N[j]? = some y) (hij : i ≠ j)
 (hx : X.env.scope.names.lookup x = some .local) (hy : X.env.scope.names.lookup y = some .local) (ha : Sd g X a a') (hb : Sd g X b b')
 (hw : swappedStores [.Tuple [.Name x px, .Name y py] kt pt] (.Tuple [a, b] k2 pt2) X.env = pure (some [x, y]))
 (hs : swapsWithSole [.Tuple [.Name x px, .Name y py] kt pt] (.Tuple [a, b] k2 pt2) pos.line X.env = pure false := by rfl) (h1 : starEach [a, b] X.env = (false, eval a X.env) :: starEach [b] X.env := by rfl) (h2 : starEach [b] X.env = (false, eval b X.env) :: starEach [] X.env := by rfl) :
 SdS g X F (.Assign [.Tuple [.Name x px, .Name y py] kt pt] (.Tuple [a, b] k2 pt2) pos) (.par i j a' b') := Ct (Wd hc hN hi hj hij hx hy (Ge ha (Ge hb ji h2) h1) hw hs) fun D sg H q => by
 obtain ⟨rho, st, env, s, n, q⟩ := q
 simp only [Ak] at q
 refine step s n q fun d st1 v H1 r1 k1 s1 n1 rp q1 => ?_
 refine step s1 n1 q1 fun e st2 w H2 r2 k2 s2 n2 rp2 q2 => ?_
 split at q2
 · exact ⟨v, w, rfl, (show Bc g rho H D (.next _) st2 from q2) _ H2 r2 (k1.trans k2) s2 ((n2.set i (rp.mono k2)).set j rp2)⟩
 · exact q2.elim
theorem Mq {J : It} {xs : List D} {p : Option Nat} {is : List Nat} {one : Bool} {x' : Ss} {r1 : List Addr} {H1 : Hp} {D : Ends} {sg : L2.St} {st1 : Sto} {env : Env}
 (hJ : ∀ rho st H, g.Keep r1 H1 rho H → g.Sto rho st H → stays st p xs = true → J.stop xs.length H ∧ ∀ (i : Nat) (d : DD.D), xs[i]? = some d → J.go i H ∧ ∀ x H', J.yld i H x H' → H' = H ∧ g.Rep rho H d x)
 (s1 : g.Sto r1 st1 H1) (n1 : g.Env r1 H1 env sg) (q1 : RQ g (forLoop xs p (fun d env st => match store is one d env with | some env' => Ah g.tab g.call F x' env' st | none => .bad) xs env st1) (Bc g r1 H1 D) r1 H1) :
 ∃ W : Nat → Nat → L2.St → Hp → Prop, (∃ m, W 0 m sg H1) ∧ ∀ i m sg H, W i m sg H →
  (J.stop i H ∧ D.nx sg H) ∨ (J.go i H ∧ ∃ N : L2.St → Hp → Prop, (∀ sg' H', N sg' H' → ∃ m', m' < m ∧ W (i + 1) m' sg' H') ∧ ∀ x H', J.yld i H x H' → tg g.K is one x sg H' fun sg2 H2 => tSs g F x' { D with nx := N, ct := N, bk := D.nx } sg2 H2) := by
 refine ⟨fun i m sg H => m = xs.length - i ∧ i ≤ xs.length ∧ ∃ rho st env, g.Keep r1 H1 rho H ∧ g.Sto rho st H ∧ g.Env rho H env sg ∧ RQ g (forLoop xs p (fun d env st => match store is one d env with | some env' => Ah g.tab g.call F x' env' st | none => .bad) (xs.drop i) env st) (Bc g rho H D) rho H, ⟨xs.length, by simp, Nat.zero_le _, r1, st1, env, .refl _ _, s1, n1, q1⟩, ?_⟩
 rintro i m sg H ⟨rfl, hi, rho, st, env, kk, s, n, q⟩
 have hst : stays st p xs = true := by
  cases z : stays st p xs with
  | true => rfl
  | false =>
   exfalso
   cases e : xs.drop i with
   | nil => rw [e] at q; simp only [forLoop, z] at q; exact q
   | cons d t => rw [e] at q; simp only [forLoop, z] at q; exact q
 obtain ⟨h1, h2⟩ := hJ rho st H kk s hst
 by_cases hlt : i < xs.length
 · obtain ⟨hgo, hy⟩ := h2 i xs[i] (List.getElem?_eq_getElem hlt)
   refine .inr ⟨hgo, fun sg H => i + 1 ≤ xs.length ∧ ∃ rho st env, g.Keep r1 H1 rho H ∧ g.Sto rho st H ∧ g.Env rho H env sg ∧ RQ g (forLoop xs p (fun d env st => match store is one d env with | some env' => Ah g.tab g.call F x' env' st | none => .bad) (xs.drop (i + 1)) env st) (Bc g rho H D) rho H, fun sg' H' h => ⟨xs.length - (i + 1), by omega, rfl, h.1, h.2⟩, fun x H' y => ?_⟩
   obtain ⟨e2, rx⟩ := hy x H' y
   subst e2
   rw [List.drop_eq_getElem_cons hlt] at q
   simp only [forLoop, hst, if_true] at q
   cases es : store is one xs[i] env with
   | none => rw [es] at q; exact q.elim
   | some env1 =>
    rw [es] at q
    refine ir es rx n fun sg1 n1 => ?_
    refine ⟨rho, st, env1, s, n1, ?_⟩
    revert q
    simp only
    cases Ah g.tab g.call F x' env1 st with
    | bad => exact fun q => q
    | exc c st2 => exact fun q => q
    | ok f st2 =>
     simp only [Bj]
     cases f with
     | next env2 => exact fun q sg2 H2 r2 k2 s2 n2 => ⟨hlt, r2, st2, env2, kk.trans k2, s2, n2, RQ.mono k2 q fun f st p => Bc.mono k2 p⟩
     | cont env2 => exact fun q sg2 H2 r2 k2 s2 n2 => ⟨hlt, r2, st2, env2, kk.trans k2, s2, n2, RQ.mono k2 q fun f st p => Bc.mono k2 p⟩
     | brk env2 => exact fun q => q
     | ret d => exact fun q => q
 · have e : i = xs.length := by omega
   subst e
   refine .inl ⟨h1, ?_⟩
   rw [List.drop_eq_nil_of_le (Nat.le_refl _)] at q
   simp only [forLoop, hst, if_true] at q
   exact (show Bc g rho H D (.next env) st from q) sg H rho (.refl _ _) s n
def Es.len : Es → Nat
 | .nil => 0
 | .cons _ r => r.len + 1
theorem qv {tab : Nat → Ty → Option Bool} {call : Or} : ∀ {es : Es} {env : Env} {st st' : Sto} {ds : List DD.D}, Av tab call es env st = .ok ds st' → ds.length = es.len
 | .nil, env, st, st', ds, h => by simp only [Av] at h; cases h; rfl
 | .cons e r, env, st, st', ds, h => by
  simp only [Av] at h
  cases e1 : Ab tab call e env st with
  | bad => rw [e1] at h; cases h
  | exc c st1 => rw [e1] at h; cases h
  | ok d st1 =>
   rw [e1] at h
   simp only [Bj] at h
   cases e2 : Av tab call r env st1 with
   | bad => rw [e2] at h; cases h
   | exc c st2 => rw [e2] at h; cases h
   | ok t st2 =>
    rw [e2] at h
    simp only [Bj] at h
    cases h
    simp only [List.length_cons, qv e2, Es.len]
theorem qw {β : Type} {e : Es} {env : Env} {sg : L2.St} {st : Sto} {rho : List Addr} {H : Hp} {k : List DD.D → Sto → Res β} {ok : β → Sto → Prop} {Q : List V → Hp → Prop} (s : g.Sto rho st H) (n : g.Env rho H env sg)
 (h : RQ g ((Av g.tab g.call e env st).bind k) ok rho H)
 (hk : ∀ d st1 v H1 rho1, d.length = e.len → g.Keep rho H rho1 H1 → g.Sto rho1 st1 H1 → g.Env rho1 H1 env sg → g.RepL rho1 H1 d v → RQ g (k d st1) ok rho1 H1 → Q v H1) : tEs g e sg H Q := by
 refine ⟨rho, st, env, s, n, ?_⟩
 revert h
 cases ee : Av g.tab g.call e env st with
 | ok d st1 => exact fun h v H1 r1 k1 s1 rp => hk d st1 v H1 r1 (qv ee) k1 s1 (n.mono k1) rp (RQ.mono k1 h fun _ _ x => x)
 | exc c st1 => exact fun h => h
 | bad => exact fun h => h
theorem zo {ds xs : List DD.D} {e : Expr} (h : Fi ds = some xs) (hl : ds.length = 1) : ∃ j : Int, ds = [.int j] ∧ -(2 ^ 62) ≤ j ∧ j < 2 ^ 62 ∧ xs = Dv 0 j.toNat := by
 match ds, hl with
 | [d], _ =>
  cases d with
  | int j =>
   simp only [Fi] at h
   split at h
   · rename_i z; cases h; exact ⟨j, rfl, z.1, z.2, rfl⟩
   · cases h
  | _ => simp [Fi] at h
theorem Zo {pos2 : Pos} {is : List Nat} {tgt e : Expr} {body : List Stmt} {x' : Ss} {e' : E} {p : Pos} (hp : PassesOwn (model X.prog X.w) X.A X.env X.xe) (hc : X.calm = true) (hg : Gl X "range") (hm : X.mg "range" = none) (ha : Sd g X e e') (ht : PG X tgt (tg g.K is true)) (hx : De g X F body x')
 (he : starEach [e] X.env = [(false, eval e X.env)] := by rfl) (hs : ∀ x, foldedSetIterable (.Call (.Name "range" p) [e] [] pos) X.env x = pure x   := by intro _; rfl) : SdS g X F (.For tgt (.Call (.Name "range" p) [e] [] pos) body [] pos2) (.forR is (.cons e' .nil) x') := Ct (ka hp hc (Wl hg hm (aa ha ae he) he) ht hx hs) fun D sg H q => by
 obtain ⟨rho, st, env, s, n, q⟩ := q
 simp only [Ak] at q
 refine qw s n q fun ds st1 vs H1 r1 hl k1 s1 n1 rps q1 => ?_
 split at q1
 · rename_i xs e1
   obtain ⟨j, rfl, j1, j2, rfl⟩ := zo (e := e) e1 hl
   obtain ⟨v, rfl, rv⟩ := Hf rps
   refine ⟨j, by rw [aw.mp rv], j1, j2, ?_⟩
   refine Mq (J := Itr 0 j.toNat) (p := none) (fun rho st H _ _ _ => ⟨?_, fun i d hd => ?_⟩) s1 n1 (RQ.mono (.refl _ _) q1 fun f st p => Bc.mono k1 p)
   · show j.toNat ≤ _
     simp [Dv]
   · have hi : i < j.toNat := by
      have := (List.getElem?_eq_some_iff.mp hd).1
      simpa [Dv] using this
     refine ⟨hi, fun x H' y => ⟨y.1, ?_⟩⟩
     have hd' : d = .int (0 + (i : Nat)) := by
      have := (List.getElem?_eq_some_iff.mp hd).2
      simp [Dv] at this
      simp [← this]
     rw [hd', aw]
     exact y.2
 · exact q1.elim
theorem Qw {is : List Nat} {one : Bool} {tgt e : Expr} {body : List Stmt} {x' : Ss} {e' : E} (hK : X.K = g.K) (hp : PassesOwn (model X.prog X.w) X.A X.env X.xe) (hc : X.calm = true) (ha : Sd g X e e') (ht : PG X tgt (tg g.K is one)) (hx : De g X F body x')
 (hs : ∀ x, foldedSetIterable e X.env x = pure x := by intro _; rfl) : SdS g X F (.For tgt e body [] pos) (.forS is one false e' x') := Ct (ka hp hc (Oz ha) ht hx hs) fun D sg H q => by
 obtain ⟨rho, st, env, s, n, q⟩ := q
 simp only [Ak] at q
 refine step s n q fun d st1 v H1 r1 k1 s1 n1 rp q1 => ?_
 cases d with
 | loc m =>
  simp only [gh, Bool.false_eq_true, if_false] at q1
  cases el : av st1 m with
  | none => rw [el] at q1; exact q1.elim
  | some ds =>
   rw [el] at q1
   simp only [Option.map_some] at q1
   obtain ⟨p, vs, hr, sq, rl⟩ := Ek s1 el
   obtain ⟨p2, hr2, rfl⟩ := bh.mp rp
   rw [hr] at hr2; cases hr2
   refine ⟨p, rfl, ⟨vs, by rw [hK]; exact sq⟩, ?_⟩
   rw [hK]
   refine Mq (J := Itl g.K p) (p := some m) (fun rho st H kk s hst => ?_) s1 n1 (RQ.mono (.refl _ _) q1 fun f st p => Bc.mono k1 p)
   have hst : av st m = some ds := odt hst
   obtain ⟨p3, ws, hr3, sq3, rl3⟩ := Ek s hst
   rw [kk.at hr] at hr3; cases hr3
   refine ⟨⟨ws, sq3, by rw [← rl3.length]; exact Nat.le_refl _⟩, fun i d hd => ?_⟩
   obtain ⟨v, hv, rv⟩ := rl3.get hd
   refine ⟨⟨ws, v, sq3, hv⟩, fun x H' y => ⟨y.1, ?_⟩⟩
   have := y.2 ws sq3
   rw [hv] at this; cases this
   exact rv
 | _ => exact q1.elim
theorem qx {is : List Nat} {one : Bool} {tgt e : Expr} {body : List Stmt} {x' : Ss} {e' : E} (hK : X.K = g.K) (hp : PassesOwn (model X.prog X.w) X.A X.env X.xe) (hc : X.calm = true) (ha : Sd g X e e') (ht : PG X tgt (tg g.K is one)) (hx : De g X F body x')
 (hs : ∀ x, foldedSetIterable e X.env x = pure x := by intro _; rfl) : SdS g X F (.For tgt e body [] pos) (.forS is one true e' x') := Ct (ka hp hc (Pa ha) ht hx hs) fun D sg H q => by
 obtain ⟨rho, st, env, s, n, q⟩ := q
 simp only [Ak] at q
 refine step s n q fun d st1 v H1 r1 k1 s1 n1 rp q1 => ?_
 cases d with
 | tup ds =>
  simp only [gh, if_true] at q1
  obtain ⟨p, vs, rfl, sq, rl⟩ := bz.mp rp
  refine ⟨p, rfl, ⟨vs, by rw [hK]; exact sq⟩, ?_⟩
  rw [hK]
  refine Mq (J := Itt g.K p) (p := none) (fun rho st H kk s hst => ?_) s1 n1 (RQ.mono (.refl _ _) q1 fun f st p => Bc.mono k1 p)
  have sq3 := kk.tup p vs sq
  have rl3 := rl.mono kk
  refine ⟨⟨vs, sq3, by rw [← rl3.length]; exact Nat.le_refl _⟩, fun i d hd => ?_⟩
  obtain ⟨v, hv, rv⟩ := rl3.get hd
  refine ⟨⟨vs, v, sq3, hv⟩, fun x H' y => ⟨y.1, ?_⟩⟩
  have := y.2 vs sq3
  rw [hv] at this; cases this
  exact rv
 | _ => simp [gh] at q1; exact q1.elim
theorem Hg {apos cpos : Pos} (hK : X.K = g.K) (ho : Sd g X o o') (hv : Sd g X v v') (hbase : attributeBase o "append" X.env (eval o X.env) = eval o X.env := by rfl)
 (hfew : ((backTo cpos (starEach [v] X.env)).all (fun x => !x.1) && (backToKw cpos (keywordEach [] X.env)).all (fun x => x.1.isSome) && decide ([v].length + ([] : List Keyword).length + (if ([] : List Keyword).isEmpty then 0 else 1) < 30)) = true := by rfl)
 (hline : (apos.endLine == cpos.line) = true := by rfl) (hs : starEach [v] X.env = (false, eval v X.env) :: starEach [] X.env := by rfl) : Sd g X (.Call (.Attribute o "append" apos) [v] [] cpos) (.mt .append o' (.cons v' .nil)) :=
 bc (Px PySem.F.plainAttrs_list PySem.F.slot_list_append PySem.F.type_list_append Py ho (aa hv ae hs) hbase hfew hline hs rfl) fun sg H Q q => by
  obtain ⟨rho, st, env, s, n, q⟩ := q
  simp only [Ab] at q
  refine step s n q fun d st1 x H1 r1 k1 s1 n1 rp q1 => ?_
  split at q1
  · rename_i hl
    have hl : Hd st1 d = true := hl
    cases d with
    | loc m =>
     have hl : ∃ xs, st1[m]? = some (.lst xs) := by
      simp only [Hd] at hl
      split at hl
      · rename_i xs e; exact ⟨xs, e⟩
      · cases hl
     obtain ⟨xs, el⟩ := hl
     obtain ⟨p, vs, hr, hH, rl⟩ := gi s1 el
     obtain ⟨p2, hr2, rfl⟩ := bh.mp rp
     rw [hr] at hr2; cases hr2
     refine ⟨.inl ⟨rfl, vs, SqL.of hH⟩, ?_⟩
     refine Ej s1 n1 q1 fun ds st2 ws H2 r2 k2 s2 n2 rps q2 => ?_
     match ds, q2 with
     | [y], q2 =>
      obtain ⟨w, rfl, rw1⟩ := Hf rps
      simp only [mtD] at q2
      split at q2
      · rename_i zs ez
        split at q2
        · rename_i hz
          obtain ⟨p3, us, hr3, hH3, rl3⟩ := gi s2 ez
          rw [k2.at hr] at hr3; cases hr3
          have hrep : g.RepL r2 H2 (zs ++ [y]) (us ++ [w]) := rl3.append (by simp only [RepL]; exact ⟨w, [], rfl, rw1, rfl⟩)
          obtain ⟨k3, s3⟩ := s2.wrote (k2.at hr) ez hH3 hrep
          refine ⟨p, us, w, rfl, rfl, hH3, by rw [← rl3.length]; exact hz, ?_⟩
          exact (show ar g rho H Q .non _ from q2) _ _ r2 ((k1.trans k2).trans k3) s3 (Dc.mpr rfl)
        · exact q2.elim
      · exact q2.elim
     | [], q2 => exact q2.elim
     | _ :: _ :: _, q2 => exact q2.elim
    | _ => cases hl
  · exact q1.elim
end DD
namespace DD
open PySem PySem.Spec L2
open PyProof.Rows hiding St
variable {g : G} {X : Cx} {a b c : Expr} {a' b' c' : E} {pos : Pos} {rest es : List Expr} {es' : Es} {F : Nat}
abbrev G.with (g : G) (E : XK) : G := { g with xk := E }
theorem zp (h : n = m) : g.Env rho H (List.replicate n none) (List.replicate m none) := ⟨by simp [h], fun i d e => by
 rw [List.getElem?_replicate] at e
 split at e <;> cases e⟩
theorem Zp (h : g.Env rho H env sg) (i : Nat) : g.Env rho H (env.set i none) (sg.set i none) := by
 refine ⟨by rw [List.length_set, List.length_set]; exact h.len, fun j d e => ?_⟩
 by_cases hj : i = j
 · subst hj
   rw [List.getElem?_set] at e
   simp at e
 · rw [List.getElem?_set_ne hj] at e ⊢
   exact h.val j d e
theorem Qx {body suite : List Stmt} {b₀ : Stmt} {x n : Str} {np hp : Pos} {i C : Nat} {b' h' : Ss} (hfn : ∀ y, X.fn y = true) (hstk : X.stack = X.env :: X.outer) (hfr : X.env.frame = some X.env.locals) (hex : X.ex = [])
 (hN : X.N.Nodup) (hi : X.N[i]? = some n) (hl : X.env.scope.names.lookup n = some .local) (hg : Gl X x) (hm : X.mg x = some (.ref (g.cls C))) (hx : ∀ k, g.tab k (.o C) = some true → W.exmOne X.K (.ref (g.cls k)) (.ref (g.cls C)) = some true)
 (hb : ∀ (pn : List (Addr × Obj)) (E0 : XK) (xe0 : Value → Shared → Prop), PassesOwn (model X.prog X.w) X.A X.env xe0 → Passes (CXd X.prog X.w) (Cx.tr X pn xe0) E0 → De (g.with E0) (Cx.tr X pn xe0) F body b')
 (hs : ∀ a, De (g.with fun _ _ _ => False) (Cx.hd X a) F (b₀ :: suite) h') (hd : (x == ("__debug__" : Str)) = false := by decide) :
 SdS g X F (.Try body [.ExceptHandler (some (.Name x np)) (some n) (b₀ :: suite) hp] [] [] pos) (.tryS b' C i h') :=
 Ct (Za (Cx' := g.cls C) (tb := fun E0 => tSs (g.with E0) F b') (ts := tSs (g.with fun _ _ _ => False) F h') hfn hstk hfr hex hN hi hl hg hm hb hs hd) fun D sg H q hsg => by
  obtain ⟨rho, st, env, s, n, q⟩ := q
  simp only [Ak] at q
  have hlen : env.length = X.N.length := n.len.trans hsg
  refine ⟨fun cv _ H' => ∃ k st' rho', cv = .ref (g.cls k) ∧ Ah g.tab g.call F b' env st = .exc k st' ∧ g.Keep rho H rho' H' ∧ g.Sto rho' st' H', fun C' ch H' hE => ?_, rho, st, env, s, n, ?_⟩
  · obtain ⟨k, st', rho', e1, e2, kk, ss⟩ := hE
    cases e1
    rw [e2] at q
    simp only at q
    split at q
    · rename_i ht
      refine ⟨hx k ht, fun a ha => ?_⟩
      split at q
      · rename_i hi'
        obtain ⟨k2, s2⟩ := ss.laid ha (o := .ext (fj a (.ref (g.cls k)))) (c := .exn k) Cf
        refine ⟨rho' ++ [a], st' ++ [.exn k], blank env i (.loc st'.length), s2, ?_, ?_⟩
        · unfold blank
          exact (zp hlen).set i (bh.mpr ⟨a, by rw [← ss.len]; simp, rfl⟩)
        · revert q
          cases Ah g.tab g.call F h' (blank env i (.loc st'.length)) (st' ++ [.exn k]) with
          | bad => exact fun q => q
          | exc c st2 => exact fun q => q.elim
          | ok f st2 =>
           cases f with
           | next env2 => exact fun q sg2 H2 r2 k3 s3 n3 => (show Bc g rho H D (.next (env2.set i none)) st2 from q) _ H2 r2 ((kk.trans k2).trans k3) s3 (Zp n3 i)
           | ret d => exact fun q v H2 r2 k3 s3 r3 => (show Bc g rho H D (.ret d) st2 from q) v H2 r2 ((kk.trans k2).trans k3) s3 r3
           | brk env2 => exact fun q => q.elim
           | cont env2 => exact fun q => q.elim
      · exact q.elim
    · exact q.elim
  · revert q
    cases ee : Ah g.tab g.call F b' env st with
    | bad => exact fun q => q
    | ok f st1 => exact fun q => q
    | exc k st1 => exact fun q H' rho' kk ss _ _ => ⟨k, st1, rho', rfl, rfl, kk, ss⟩
theorem zq {body : List Stmt} {x y txt : Str} {j ok : Nat} {np hp yp ap cpos rpos cp : Pos} {C C2 : Nat} {b' : Ss} (hfn : ∀ y, X.fn y = true) (hstk : X.stack = X.env :: X.outer) (hfr : X.env.frame = some X.env.locals) (hex : X.ex = [])
 (hg : Gl X x) (hm : X.mg x = some (.ref (g.cls C))) (hx : ∀ k v, g.tab k (.o C) = some v → W.exmOne X.K (.ref (g.cls k)) (.ref (g.cls C)) = some v) (hC : ∀ k, g.tab k (.o C) = some true → k = 2) (h2 : C2 ≠ 2) (hgy : Gl X y) (hmy : X.mg y = some (.ref (g.cls C2)))
 (hq : W.excIn X.K (g.cls C2) [.type "ValueError", .type "Exception", .type "BaseException", .type "object"] "ValueError.__new__" = true) (hH : Mi X g.xk)
 (hb : ∀ (pn : List (Addr × Obj)) (E0 : XK) (xe0 : Value → Shared → Prop), PassesOwn (model X.prog X.w) X.A X.env xe0 → Passes (CXd X.prog X.w) (Cx.tr X pn xe0) E0 → De (g.with E0) (Cx.tr X pn xe0) F body b') (hd : (x == ("__debug__" : Str)) = false := by decide) (hdy : (y == ("__debug__" : Str)) = false := by decide) :
 SdS g X F (.Try body [.ExceptHandler (some (.Name x np)) none [.Raise (some (.Call (.Name y yp) [.Constant (.str txt) j ap] [] cpos)) (some (.Constant .none ok cp)) rpos] hp] [] [] pos) (.tryR b' C C2) :=
 Ct (ze (Cx' := g.cls C) (Cy := g.cls C2) (tb := fun E0 => tSs (g.with E0) F b') (E := g.xk) (bmB := []) hfn hstk hfr hex hg hm hgy hmy hq hH hb hd hdy) fun D sg H q hsg => by
  obtain ⟨rho, st, env, s, n, q⟩ := q
  simp only [Ak] at q
  refine ⟨fun cv ch H' => ∃ k st' rho', cv = .ref (g.cls k) ∧ (k = 2 → ch = none) ∧ Ah g.tab g.call F b' env st = .exc k st' ∧ g.Keep rho H rho' H' ∧ g.Sto rho' st' H', fun C' ch H' hE => ?_, rho, st, env, s, n, ?_⟩
  · obtain ⟨k, st', rho', e1, hch, e2, kk, ss⟩ := hE
    cases e1
    rw [e2] at q
    simp only at q
    split at q
    · rename_i ht
      refine .inl ⟨hx k true ht, hch (hC k ht), fun a ha => ?_⟩
      obtain ⟨k2, s2⟩ := ss.laid ha (o := .ext (fj a (.ref (g.cls k)))) (c := .exn k) Cf
      exact q _ _ (kk.trans k2) s2 (some a) fun z => absurd z h2
    · rename_i ht
      exact .inr ⟨hx k false ht, q _ _ kk ss ch hch⟩
    · exact q.elim
  · revert q
    cases ee : Ah g.tab g.call F b' env st with
    | bad => exact fun q => q
    | ok f st1 => exact fun q => q
    | exc k st1 => exact fun q H' rho' kk ss ch hch => ⟨k, st1, rho', rfl, hch, rfl, kk, ss⟩
structure FunD (K : W.Frag) (x qual : Str) (st : Stmt) (f : Addr) (fd : FuncData) : Prop where
 ex : ∃ (oc : Value) (od : Option Addr) (dV kV doc pm : Value) (an : Option Addr) (cdv ct : Value) (osl : Array (Option Value)),
  fd = W.fnOf x qual (jk st) (Gz st) (Aq st) dV kV doc pm an cdv ct ∧ K.lookup f = some ⟨oc, od, .func fd, osl⟩ ∧ W.codeIn K cdv qual = true
 kp : W.keepIn K (.ref f) = true
theorem ay {K : W.Frag} {x qual : Str} {st : Stmt} {f : Addr} {oc : Value} {od an : Option Addr} {osl : Array (Option Value)} {dV kV doc pm cdv ct : Value} (l : K.lookup f = some ⟨oc, od, .func (W.fnOf x qual (jk st) (Gz st) (Aq st) dV kV doc pm an cdv ct), osl⟩)
 (c : W.codeIn K cdv qual = true) (k : W.keepIn K (.ref f) = true) : FunD K x qual st f (W.fnOf x qual (jk st) (Gz st) (Aq st) dV kV doc pm an cdv ct) := ⟨⟨oc, od, dV, kV, doc, pm, an, cdv, ct, osl, rfl, l, c⟩, k⟩
section
variable {P : Program} {w : World} {K : W.Frag} {mg : Str → Option Value} {base : Heap} {cls : CW} {tab : Nat → Ty → Option Bool} {fns : List Fn} {FF : Nat}
abbrev cxD (P : Program) (w : World) (K : W.Frag) (mg : Str → Option Value) (base : Heap) (N : List Str) (qual : Str) (st : Stmt) (f : Addr) (cdv : Value) (A : Around) (outer : List PySem.Env) (s : Shared) (H : Hp) (E : XK) : Cx := Dm (CXd P w) P w K mg base N qual (Aq st) f cdv A outer s H E
theorem Zq : ∀ {ds : List D} {vs : List V}, RepL K rho H ds vs → ∀ (i : Nat) (d : D), (ds.map some)[i]? = some (some d) → ∃ v, (vs.map some)[i]? = some (some v) ∧ Rep K rho H d v := fun {ds vs} r i d e => by
 rw [List.getElem?_map] at e
 cases z : ds[i]? with
 | none => rw [z] at e; cases e
 | some y =>
  rw [z] at e; cases e
  obtain ⟨v, h1, h2⟩ := r.get z
  exact ⟨v, by rw [List.getElem?_map, h1]; rfl, h2⟩
theorem mr {x qual : Str} {st : Stmt} {f : Addr} {fd : FuncData} {N ps : List Str} {m n fi : Nat} {body' : Ss} (F : FunD K x qual st f fd) (S : FnScope N ps (Aq st)) (hf : fns[fi]? = some ⟨ps.length, N.length, body'⟩)
 (hb : ∀ (cdv : Value) (A : Around) (outer : List PySem.Env) (s : Shared) (H : Hp) (E : XK), Room m (A.deeper (envOfC qual (Aq st) s.heap.objs.size f cdv)) → De ⟨K, cls, tab, Bl tab fns FF n, E⟩ (cxD P w K mg base N qual st f cdv A outer s H E) FF (Gz st) body') :
 FnOk P w K mg base (CXd P w) (m + 1) f fd ps (spD K cls ps.length (Bl tab fns FF (n + 1) fi)) := by
 obtain ⟨oc, od, dV, kV, doc, pm, an, cdv, ct, osl, rfl, lk, hcd⟩ := F.ex
 refine xt lk hcd S (fun vs H Q E h => h.1) fun A outer s H vs Q E hr hsp => ?_
 obtain ⟨hl, rho, st1, ds, s1, rl, q⟩ := hsp
 refine ⟨_, hb cdv A outer s H E hr, ?_⟩
 have hdl := rl.length
 have hpn : ps.length ≤ N.length := by have := congrArg List.length S.pre; rw [List.length_take] at this; omega
 have e0 : Bl tab fns FF (n + 1) fi ds st1 = fin (Ah tab (Bl tab fns FF n) FF body' (ds.map some ++ List.replicate (N.length - ps.length) none) st1) := by
  show (match fns[fi]? with
   | some fn => if ds.length = fn.np ∧ fn.np ≤ fn.nl then fin (Ah tab (Bl tab fns FF n) FF fn.body (ds.map some ++ List.replicate (fn.nl - fn.np) none) st1) else .bad
   | none => .bad) = _
  rw [hf]
  simp only
  rw [if_pos ⟨by omega, hpn⟩]
 rw [e0] at q
 refine ⟨rho, st1, ds.map some ++ List.replicate (N.length - ps.length) none, s1, ⟨?_, fun i d e => ?_⟩, ?_⟩
 · unfold L2.start
   simp [hdl, hl]
 · unfold L2.start
   by_cases hi : i < ds.length
   · rw [List.getElem?_append_left (by simpa using hi)] at e
     obtain ⟨v, h1, h2⟩ := Zq rl i d e
     exact ⟨v, by rw [List.getElem?_append_left (by simp; omega)]; exact h1, h2⟩
   · rw [List.getElem?_append_right (by simpa using hi), List.getElem?_replicate] at e
     split at e <;> cases e
 · revert q
   unfold fin
   cases Ah tab (Bl tab fns FF n) FF body' (ds.map some ++ List.replicate (N.length - ps.length) none) st1 with
   | bad => exact fun q => q
   | exc c st2 => exact fun q => q
   | ok f st2 =>
    simp only [Bj]
    cases f with
    | next env2 => exact fun q sg H' rho' k s' n' => q _ H' rho' k s' (by simp [Rep])
    | ret d => exact fun q => q
    | brk env2 => exact fun q => q.elim
    | cont env2 => exact fun q => q.elim
theorem Az {x qual : Str} {st : Stmt} {f : Addr} {fd : FuncData} {N ps : List Str} {n fi : Nat} {body' : Ss} (F : FunD K x qual st f fd) (S : FnScope N ps (Aq st)) (hf : fns[fi]? = some ⟨ps.length, N.length, body'⟩)
 (hb : ∀ (cdv : Value) (A : Around) (outer : List PySem.Env) (s : Shared) (H : Hp) (E : XK), Room (2 * n) (A.deeper (envOfC qual (Aq st) s.heap.objs.size f cdv)) → De ⟨K, cls, tab, Bl tab fns FF n, E⟩ (cxD P w K mg base N qual st f cdv A outer s H E) FF (Gz st) body') :
 FnOk P w K mg base (CXd P w) (2 * (n + 1)) f fd ps (spD K cls ps.length (Bl tab fns FF (n + 1) fi)) := mr (m := 2 * n + 1) F S hf fun cdv A outer s H E hr => hb cdv A outer s H E (hr.mono (by omega))
theorem Ay : FnOk P w K mg base (CXd P w) 0 f fd ps (spD K cls ps.length (Bl tab fns FF 0 fi)) := by
 refine ⟨fun vs H Q E h => h.1, fun A outer s H args us vs Q E _ _ _ _ h => ?_⟩
 obtain ⟨_, rho, st1, ds, s1, rl, q⟩ := h
 exact q.elim
theorem ai (hf : fns[fi]? = some ⟨np, nl, body'⟩) : ∀ ds st, ds.length ≠ np → Bl tab fns FF n fi ds st = .bad := fun ds st h => by
 cases n with
 | zero => rfl
 | succ n =>
  show (match fns[fi]? with
   | some fn => if ds.length = fn.np ∧ fn.np ≤ fn.nl then fin (Ah tab (Bl tab fns FF n) FF fn.body (ds.map some ++ List.replicate (fn.nl - fn.np) none) st) else .bad
   | none => .bad) = _
  rw [hf]
  simp only
  rw [if_neg (fun z => h z.1)]
end
end DD
namespace DD
open PySem PySem.Spec L2
variable {g : G} {X : Cx} {a b c : Expr} {a' b' c' : E} {pos : Pos} {rest es : List Expr} {es' : Es} {F : Nat}
def Fp : Cm → CmpOp
 | .eq => .Eq | .ne => .NotEq | .lt => .Lt | .le => .LtE | .gt => .Gt | .ge => .GtE | .isN => .Is | .notN => .IsNot | .inL => .In | .notIn => .NotIn
def rCm (g : G) (c : Cm) : R2 := fun x y H Q => ∃ rho st a b, g.Sto rho st H ∧ g.Rep rho H a x ∧ g.Rep rho H b y ∧ RQ g (cmD c a b st) (ar g rho H Q) rho H
theorem zr {rho : List Addr} {H : Hp} {d : D} {x : V} {v : Value} {c : Bool} {A : Around} {E : Value → Shared → Prop} {s : Shared} {M : Model} {Q : Value → Shared → Prop} (r : g.Rep rho H d x) (rx : RelV x v) (h : Q (.bool (decide (d = D.bl c))) s) : wpAny M A (compareOp .Is v (.bool c)) Q E s := by
 cases d with
 | non => cases Dc.mp r; cases rx; exact wpAny_pure h
 | bl z => cases bg.mp r; cases rx; cases z <;> cases c <;> exact wpAny_pure h
 | int i => cases aw.mp r; obtain ⟨t, rfl⟩ := rx; exact wpAny_pure h
 | str z => cases Bs.mp r; obtain ⟨t, rfl⟩ := rx; exact wpAny_pure h
 | tup ds => obtain ⟨q, vs, rfl, _⟩ := bz.mp r; cases rx; exact wpAny_pure h
 | loc n => obtain ⟨q, _, rfl⟩ := bh.mp r; cases rx; exact wpAny_pure h
theorem Zr {rho : List Addr} {H : Hp} {d : D} {x : V} {v : Value} {c : Bool} {A : Around} {E : Value → Shared → Prop} {s : Shared} {M : Model} {Q : Value → Shared → Prop} (r : g.Rep rho H d x) (rx : RelV x v) (h : Q (.bool (!decide (d = D.bl c))) s) : wpAny M A (compareOp .IsNot v (.bool c)) Q E s := by
 cases d with
 | non => cases Dc.mp r; cases rx; exact wpAny_pure h
 | bl z => cases bg.mp r; cases rx; cases z <;> cases c <;> exact wpAny_pure h
 | int i => cases aw.mp r; obtain ⟨t, rfl⟩ := rx; exact wpAny_pure h
 | str z => cases Bs.mp r; obtain ⟨t, rfl⟩ := rx; exact wpAny_pure h
 | tup ds => obtain ⟨q, vs, rfl, _⟩ := bz.mp r; cases rx; exact wpAny_pure h
 | loc n => obtain ⟨q, _, rfl⟩ := bh.mp r; cases rx; exact wpAny_pure h
theorem qy (r : g.Rep rho H d v) : decide (v = V.non) = decide (d = D.non) := by
 cases d with
 | non => cases Dc.mp r; rfl
 | bl b => cases bg.mp r; simp
 | int b => cases aw.mp r; simp
 | str b => cases Bs.mp r; simp
 | tup ds => obtain ⟨_, _, rfl, _⟩ := bz.mp r; simp
 | loc n => obtain ⟨_, _, rfl⟩ := bh.mp r; simp
theorem Ir (hK : X.K = g.K) (hw : g.cls.w = X.w) (hu : X.A.units + 64 < cLine) (c : Cm) (hc : c = .le ∨ c = .isN ∨ c = .notN) : OpR X (compareOp (Fp c)) (rCm g c) := by
 rintro pins s sg H x y v u Q I rx ry ⟨rho, st, a, b, S, r1, r2, q⟩
 rcases hc with rfl | rfl | rfl
 · refine Wu pins s sg H x y v u Q I rx ry ?_
   cases a with
   | int i =>
    cases b with
    | int j => exact ⟨i, j, aw.mp r1, aw.mp r2, q _ H rho (.refl _ _) S (bg.mpr rfl)⟩
    | _ => exact q.elim
   | _ => exact q.elim
 · simp only [cmD] at q
   cases b with
   | non => exact Wx pins s sg H x y v u Q I rx ry ⟨Dc.mp r2, by rw [qy r1]; exact (show ar g rho H Q (.bl _) st from q) _ H rho (.refl _ _) S (bg.mpr rfl)⟩
   | bl c =>
    cases bg.mp r2
    cases ry
    exact zr r1 rx ⟨.bl _, H, I, rfl, (show ar g rho H Q (.bl _) st from q) _ H rho (.refl _ _) S (bg.mpr rfl)⟩
   | _ => exact q.elim
 · simp only [cmD] at q
   cases b with
   | non => exact wy pins s sg H x y v u Q I rx ry ⟨Dc.mp r2, by rw [qy r1]; exact (show ar g rho H Q (.bl _) st from q) _ H rho (.refl _ _) S (bg.mpr rfl)⟩
   | bl c =>
    cases bg.mp r2
    cases ry
    exact Zr r1 rx ⟨.bl _, H, I, rfl, (show ar g rho H Q (.bl _) st from q) _ H rho (.refl _ _) S (bg.mpr rfl)⟩
   | _ => exact q.elim
theorem Qy (q : tE g (.cm k a' b') sg H Q) : tOp (rCm g k) (tE g a') (tE g b') sg H Q := by
 obtain ⟨rho, st, env, s, n, q⟩ := q
 simp only [Ab] at q
 refine two (k := cmD k) ?_ s n q
 intro x y u v st rho H Q s rx ry q
 exact ⟨rho, st, x, y, s, rx, ry, q⟩
theorem qz (hK : X.K = g.K) (hw : g.cls.w = X.w) (hu : X.A.units + 64 < cLine) (ha : Sd g X a a') (hb : Sd g X b b') : SdT g X (.Compare a [.Is] [b] pos) (.cm .isN a' b') := dw (Gd (Ir hK hw hu .isN (.inr (.inl rfl))) ha hb (gd _)) fun sg H Q q => Qy (cmT q)
theorem Zs (hK : X.K = g.K) (hw : g.cls.w = X.w) (hu : X.A.units + 64 < cLine) (ha : Sd g X a a') (hb : Sd g X b b') : SdT g X (.Compare a [.IsNot] [b] pos) (.cm .notN a' b') := dw (Gd (Ir hK hw hu .notN (.inr (.inr rfl))) ha hb (gd _)) fun sg H Q q => Qy (cmT q)
theorem Qz (q : tE g (.chn c1 c2 a' b' c') sg H Q) : Lz (rCm g c1) (rCm g c2) (tE g a') (tE g b') (tE g c') sg H Q := by
 obtain ⟨rho, st, env, s, n, q⟩ := q
 simp only [Ab] at q
 refine step s n q fun x st1 u H1 r1 k1 s1 n1 rx q1 => ?_
 refine step s1 n1 q1 fun y st2 v H2 r2 k2 s2 n2 ry q2 => ?_
 refine ⟨r2, st2, x, y, s2, rx.mono k2, ry, ?_⟩
 revert q2
 cases e : cmD c1 x y st2 with
 | bad => exact fun q => q
 | exc cc st3 => exact fun q => q
 | ok d st3 =>
  obtain ⟨z, rfl⟩ := kj e
  simp only [Bj]
  intro q2 w H3 r3 k3 s3 rw3
  refine ⟨z, bg.mp rw3, ?_⟩
  cases z with
  | false => exact Ha ((show ar g rho H Q (.bl false) st3 from q2) _ H3 r3 ((k1.trans k2).trans k3) s3 (bg.mpr rfl))
  | true =>
   refine Hb (step s3 (n2.mono k3) (RQ.mono k3 q2 fun _ _ p => p) fun t st4 w4 H4 r4 k4 s4 n4 rt q4 => ?_)
   exact ⟨r4, st4, y, t, s4, (ry.mono k3).mono k4, rt, RQ.mono (.refl _ _) q4 fun _ _ p => p.mono (((k1.trans k2).trans k3).trans k4)⟩
theorem zt (q : tT g (.chn c1 c2 a' b' c') sg H Q) : tE g (.chn c1 c2 a' b' c') sg H (fun x H' => ∃ z, x = .bl z ∧ Q z H') := by
 obtain ⟨rho, st, env, s, n, q⟩ := q
 refine ⟨rho, st, env, s, n, ?_⟩
 simp only [aq] at q
 simp only [Ab]
 revert q
 cases Ab g.tab g.call a' env st with
 | bad => exact fun q => q
 | exc c st1 => exact fun q => q
 | ok x st1 =>
  simp only [Bj]
  cases Ab g.tab g.call b' env st1 with
  | bad => exact fun q => q
  | exc c st2 => exact fun q => q
  | ok y st2 =>
   simp only [Bj]
   cases e : cmD c1 x y st2 with
   | bad => exact fun q => q
   | exc c st3 => exact fun q => q
   | ok d st3 =>
    obtain ⟨z, rfl⟩ := kj e
    simp only [Bj]
    cases z with
    | false =>
     intro q v H' rho' k1 s1 r1
     exact ⟨false, bg.mp r1, (show dc g rho H Q false st3 from q) H' rho' k1 s1⟩
    | true =>
     simp only
     cases Ab g.tab g.call c' env st3 with
     | bad => exact fun q => q
     | exc c st4 => exact fun q => q
     | ok t st4 =>
      simp only [Bj]
      cases e2 : cmD c2 y t st4 with
      | bad => exact fun q => q
      | exc c st5 => exact fun q => q
      | ok d st5 =>
       obtain ⟨z, rfl⟩ := kj e2
       simp only [Bj]
       intro q v H' rho' k1 s1 r1
       exact ⟨z, bg.mp r1, (show dc g rho H Q z st5 from q) H' rho' k1 s1⟩
theorem ra (c1 c2 : Cm) (hK : X.K = g.K) (hw : g.cls.w = X.w) (hu : X.A.units + 64 < cLine) (ha : Sd g X a a') (hb : Sd g X b b') (hc : Sd g X c c') (hm : lastMarks [Fp c1, Fp c2] [b, c] = false := by with_unfolding_all rfl) (h1 : c1 = .le := by rfl) (h2 : c2 = .le := by rfl) : Sd g X (.Compare a [Fp c1, Fp c2] [b, c] pos) (.chn c1 c2 a' b' c') :=
 bc (wz (Ir hK hw hu c1 (.inl h1)) (Ir hK hw hu c2 (.inl h2)) ha hb hc hm) fun sg H Q q => Qz q
theorem Ra (c1 c2 : Cm) (hK : X.K = g.K) (hw : g.cls.w = X.w) (hu : X.A.units + 64 < cLine) (ha : Sd g X a a') (hb : Sd g X b b') (hc : Sd g X c c') (hm : lastMarks [Fp c1, Fp c2] [b, c] = false := by with_unfolding_all rfl) (h1 : c1 = .le := by rfl) (h2 : c2 = .le := by rfl) : SdT g X (.Compare a [Fp c1, Fp c2] [b, c] pos) (.chn c1 c2 a' b' c') :=
 dw (Wz (Ir hK hw hu c1 (.inl h1)) (Ir hK hw hu c2 (.inl h2)) ha hb hc hm) fun sg H Q q => Qz (zt q)
variable {g : G} {X : Cx} {a b c : Expr} {a' b' c' : E} {pos : Pos} {rest es : List Expr} {es' : Es} {F : Nat}
theorem RepL.drop : ∀ {ds : List D} {vs : List V} (n : Nat), g.RepL rho H ds vs → g.RepL rho H (ds.drop n) (vs.drop n)
 | ds, vs, 0, r => by simpa using r
 | [], vs, n + 1, r => by simp only [DD.RepL] at r; subst r; simp [DD.RepL]
 | d :: t, vs, n + 1, r => by
  simp only [DD.RepL] at r
  obtain ⟨v, w, rfl, _, r2⟩ := r
  simpa using RepL.drop n r2
theorem RepL.take : ∀ {ds : List D} {vs : List V} (n : Nat), g.RepL rho H ds vs → g.RepL rho H (ds.take n) (vs.take n)
 | ds, vs, 0, r => by simp [DD.RepL]
 | [], vs, n + 1, r => by simp only [DD.RepL] at r; subst r; simp [DD.RepL]
 | d :: t, vs, n + 1, r => by
  simp only [DD.RepL] at r
  obtain ⟨v, w, rfl, r1, r2⟩ := r
  simp only [List.take_succ_cons, DD.RepL]
  exact ⟨v, _, rfl, r1, RepL.take n r2⟩
theorem RepL.cut (r : g.RepL rho H ds vs) (lo hi : Option Int) : g.RepL rho H (cutD ds lo hi) (eh vs lo hi) := by
 unfold cutD eh
 rw [r.length]
 exact RepL.take _ (RepL.drop _ r)
def rb (K : W.Frag) : V → Option Int → Option Int → Hp → VK → Prop := fun x lo hi H Q => ∃ a xs, x = .ref a ∧ SqT K H a xs ∧ HT.sIx xs.length 0 lo = 0 ∧ HT.sIx xs.length xs.length hi = xs.length ∧ Q x H
section
open PyProof.Rows hiding St RelV
open PySem.SeqAt
open PySem.MeetsSeq PySem.MeetsSeq2 PySem.MeetsSeq3
theorem Zt {prog : Program} {w : World} {A : Around} {E : Value → Shared → Prop} {s : Shared} {t sl : Addr} {items : Array Value} {vl vu : Value} {lo hi : Option Int} {Q : Value → Shared → Prop} (ht : IsTup s.heap t items) (hs : s.heap.IsSliceOf sl vl vu .none) (pl : IsPart vl lo) (pu : IsPart vu hi)
 (h1 : HT.sIx items.size 0 lo = 0) (h2 : HT.sIx items.size items.size hi = items.size) (h : Q (.ref t) s) : wpAny (model prog w) A (getItem (.ref t) (.ref sl)) Q E s := by
 obtain ⟨os, hos, hcs, hds⟩ := id hs
 have hTs : s.TypeIs (.ref sl) "slice" := ⟨os, hos, hcs⟩
 unfold getItem
 try with_reducible refine wpAny_holding ?_
 first | refine wpAny_bind (wpAny_pure ?_) | skip
 refine wpAny_bind (wpAny_sequenceKey ht.typeIs (by decide) ?_)
 refine wpAny_bind (wpAny_callSpecial?_slot (name := Str.ofString "__getitem__") ht.typeIs PyProof.Rows.slot_tuple_getitem
  (wpAny_call_entry PyProof.Rows.slot_tuple_getitem ht.typeIs entry_tuple_getitem ?_ (args_tuple_getitem _ _)))
 show wpAny _ _ (Builtin.Tuple.tupleItemsOf (.ref t) >>= _) _ _ s
 refine wpAny_bind (tupleItemsOf_ ht ?_)
 refine wpAny_bind (wpAny_typeOf hTs ?_)
 rw [if_pos (by decide)]
 refine wpAny_bind (HT.Pm hs pl pu ?_)
 show wpAny _ _ (if (((HT.sIx items.size 0 lo : Nat) : Int) == 0 && (1 : Int) == 1 && (HT.sIx items.size items.size hi - HT.sIx items.size 0 lo) == items.size) = true then _ else _) _ _ s
 rw [if_pos (by rw [h1, h2]; simp)]
 refine wpAny_bind (m := Builtin.Tuple.tupleIsExact (.ref t)) ?_
 unfold Builtin.Tuple.tupleIsExact
 refine wpAny_bind (wpAny_typeOf ht.typeIs (wpAny_pure ?_))
 rw [if_pos (by decide)]
 exact wpAny_bind (wpAny_rule (wpAny_pure ⟨_, rfl, wpAny_pure h⟩))
end
theorem zu : SlR X (rb X.K) := by
 intro pins s sg H x v vl vu lo hi sl Q I rx hs pl pu h
 obtain ⟨a, xs, rfl, hx, h1, h2, q⟩ := h
 cases rx
 obtain ⟨its, r, ht, hz⟩ := I.tuple hx
 have hlen : its.toArray.size = xs.length := by rw [List.size_toArray]; exact r.length.symm
 exact ⟨"tuple", _, PyProof.Rows.slot_tuple_getitem.lookup, ht.typeIs, Zt ht hs pl pu (by rw [hlen]; exact h1) (by rw [hlen]; exact h2) ⟨.ref a, H, I, rfl, q⟩⟩
def Rb (K : W.Frag) : V → Option Int → Option Int → Hp → VK → Prop := fun x lo hi H Q => ∃ a xs, x = .ref a ∧ SqL K H a xs ∧ ∀ p, H p = none → Q (.ref p) (upd H p (.lst (eh xs lo hi)))
theorem Zu (its : List Value) (lo hi : Option Int) : slicePick its.toArray lo hi none = ((its.drop (HT.sIx its.length 0 lo)).take (HT.sIx its.length its.length hi - HT.sIx its.length 0 lo)).toArray := by
 have c : ∀ (n d : Nat) (o : Option Int), o.elim d (clipAt n) = HT.sIx n d o := fun n d o => by
  cases o with
  | none => rfl
  | some v =>
   show clipAt n v = if v < 0 then (v + (n : Int)).toNat else min v.toNat n
   unfold clipAt
   split <;> omega
 rw [slicePick_plain, c, c]
 simp
theorem Zv : SlR X (Rb X.K) := by
 intro pins s sg H x v vl vu lo hi sl Q I rx hs pl pu h
 obtain ⟨a, xs, rfl, hx, q⟩ := h
 cases rx
 obtain ⟨its, r, hl, hz⟩ := I.list hx
 have hlen := r.length
 refine ⟨"list", _, slot_list_getitem.lookup, hl.isList.typeIs, ?_⟩
 refine wpAny_getItem_list_slice hl.isList hs pl pu .none (by simp) ?_ (by rw [List.size_toArray, ← hlen]; exact hz)
 rw [Zu]
 refine ⟨.ref s.heap.objs.size, _, I.Ce (t' := s.toks) (ys := eh xs lo hi) ?_ (Nat.le_trans (pq xs lo hi) hz), rfl, q _ (I.hok.fresh (Nat.le_refl _))⟩
 unfold eh
 rw [hlen]
 exact (r.drop _).take _
variable {g : G} {X : Cx} {a b c : Expr} {a' b' c' : E} {pos p2 : Pos} {rest es : List Expr} {es' : Es} {F : Nat}
theorem bind_assoc {α β γ : Type} (r : Res α) (f : α → Sto → Res β) (k : β → Sto → Res γ) : (r.bind f).bind k = r.bind fun a st => (f a st).bind k := by cases r <;> rfl
def rSl (K : W.Frag) : V → Option Int → Option Int → Hp → VK → Prop := fun x lo hi H Q => Rb K x lo hi H Q ∨ Pq K x lo hi H Q ∨ rb K x lo hi H Q
theorem Rc : SlR X (rSl X.K) := Zv.or (Xx.or zu)
theorem rf (hK : X.K = g.K) (hp : kf k ds = some (lo, hi)) (s : g.Sto rho st H) (rx : g.Rep rho H x v)
 (q : RQ g (slD k x ds st) (ar g rho H Q) rho H) : rSl X.K v lo hi H Q := by
 unfold slD at q
 rw [hp] at q
 simp only at q
 cases x with
 | tup xs =>
  have q : ar g rho H Q (.tup (cutD xs lo hi)) st := q
  obtain ⟨p, vs, rfl, sq, rl⟩ := bz.mp rx
  have sq' : SqT X.K H p vs := by rw [hK]; exact sq
  by_cases w : HT.sIx vs.length 0 lo = 0 ∧ HT.sIx vs.length vs.length hi = vs.length
  · refine .inr (.inr ⟨p, vs, rfl, sq', w.1, w.2, q _ H rho (.refl _ _) s (bz.mpr ⟨p, vs, rfl, sq, ?_⟩)⟩)
    have e : cutD xs lo hi = xs := by
     unfold cutD
     rw [rl.length, w.1, w.2, List.drop_zero, Nat.sub_zero, ← rl.length, List.take_length]
    rw [e]; exact rl
  · refine .inr (.inl ⟨p, vs, rfl, sq', w, fun l hl => ?_⟩)
    have e := Gh hl (.tup (eh vs lo hi))
    exact q (.ref l) _ rho (Bp.keep e rho) (s.same e) (bz.mpr ⟨l, _, rfl, SqT.of Cf, (RepL.cut rl lo hi).mono (Bp.keep e rho)⟩)
 | loc n =>
  simp only at q
  split at q
  · rename_i xs e
    obtain ⟨p, vs, h1, sq, rl⟩ := Ek s e
    obtain ⟨p2, h2, rfl⟩ := bh.mp rx
    rw [h1] at h2; cases h2
    exact .inl ⟨p, vs, rfl, by rw [hK]; exact sq, fun l hl => Kg s (RepL.cut rl lo hi) hl q⟩
  · exact q.elim
 | _ => exact q.elim
theorem Mr (hK : X.K = g.K) (ha : Sd g X a a') (hb : Sd g X b b') : Sd g X (.Subscript a (.Slice (some b) none none p2) pos) (.sl 1 a' (.cons b' .nil)) := bc (Pp Rc ha (Po hb) Pn) fun sg H Q q => by
 obtain ⟨rho, st, env, s, n, q⟩ := q
 simp only [Ab, ej, Bj, bind_assoc] at q
 refine step s n q fun x st1 v H1 r1 k1 s1 n1 rx q1 => ?_
 refine step s1 n1 q1 fun y st2 u H2 r2 k2 s2 n2 ry q2 => ?_
 cases y with
 | int i => exact ⟨i, aw.mp ry, rf hK (k := 1) (ds := [.int i]) rfl s2 (rx.mono k2) (RQ.mono (.refl _ _) q2 fun _ _ p => p.mono (k1.trans k2))⟩
 | _ => exact q2.elim
theorem Kn (hK : X.K = g.K) (ha : Sd g X a a') (hb : Sd g X b b') : Sd g X (.Subscript a (.Slice none (some b) none p2) pos) (.sl 2 a' (.cons b' .nil)) := bc (Pp Rc ha Pn (Po hb)) fun sg H Q q => by
 obtain ⟨rho, st, env, s, n, q⟩ := q
 simp only [Ab, ej, Bj, bind_assoc] at q
 refine step s n q fun x st1 v H1 r1 k1 s1 n1 rx q1 => ?_
 refine step s1 n1 q1 fun y st2 u H2 r2 k2 s2 n2 ry q2 => ?_
 cases y with
 | int i => exact ⟨i, aw.mp ry, rf hK (k := 2) (ds := [.int i]) rfl s2 (rx.mono k2) (RQ.mono (.refl _ _) q2 fun _ _ p => p.mono (k1.trans k2))⟩
 | _ => exact q2.elim
theorem zw (h : opD o (.int i) (.int j) st = .ok z st') : ∃ k, z = .int k ∧ st' = st := by
 cases o <;> simp only [opD] at h <;> (try split at h) <;> first | (cases h; exact ⟨_, rfl, rfl⟩) | cases h
theorem Zw : PIp X .Mult (fun x y H Q => ∃ i j, x = .int i ∧ y = .int j ∧ gf i j ∧ Q (.int (i * j)) H) := by
 rintro pins s sg H x y u v Q I rx ry ⟨i, j, rfl, rfl, hm, q⟩
 obtain ⟨t, rfl⟩ := (show ∃ t, u = Value.int i t from rx)
 obtain ⟨t', rfl⟩ := (show ∃ t', v = Value.int j t' from ry)
 exact PyProof.Rows.imul_int ⟨.int (i * j), H, I.tok _, ⟨_, rfl⟩, q⟩ hm.ok
theorem zx {i : Nat} {o : Op} {r : TIp} {sg : L2.St} {H : Hp} {D : Ends} (hr : ∀ x y H Q, (∃ k, opD o (.int x) (.int y) [] = .ok (.int k) [] ∧ Q (.int k) H) → r (.int x) (.int y) H Q)
 (hst : ∀ x y st, opD o (.int x) (.int y) st = match opD o (.int x) (.int y) [] with | .ok z _ => .ok z st | .exc c _ => .exc c st | .bad => .bad)
 (q : tS g F (.aug i o a') D sg H) : oz i (tE g a') r D sg H := by
 obtain ⟨rho, st, env, s, n, q⟩ := q
 simp only [Ak] at q
 cases e : cz env i with
 | none => rw [e] at q; exact q.elim
 | some d =>
  rw [e] at q
  cases d with
  | int x =>
   simp only at q
   have e' : env[i]? = some (some (.int x)) := by
    unfold cz at e
    cases z : env[i]? with
    | none => rw [z] at e; cases e
    | some o => rw [z] at e; cases o with
     | none => cases e
     | some y => cases e; rfl
   obtain ⟨v, e1, r1⟩ := n.val i _ e'
   cases aw.mp r1
   refine ⟨_, e1, step s n q fun y st1 w H1 r2 k1 s1 n1 ry q1 => ?_⟩
   cases y with
   | int j =>
    cases aw.mp ry
    simp only at q1
    refine hr x j H1 _ ?_
    rw [hst] at q1
    cases ez : opD o (.int x) (.int j) [] with
    | bad => rw [ez] at q1; exact q1.elim
    | exc c t => exfalso; cases o <;> simp only [opD] at ez <;> (try split at ez) <;> cases ez
    | ok z t =>
     rw [ez] at q1
     obtain ⟨k, rfl, rfl⟩ := zw ez
     refine ⟨k, rfl, ?_⟩
     simp only [Bj] at q1
     split at q1
     · exact (show Bc g rho H D (.next _) st1 from q1) _ H1 r2 k1 s1 (n1.set i (aw.mpr rfl))
     · exact q1.elim
   | _ => exact q1.elim
  | _ => exact q.elim
theorem Zx {i : Nat} {x : Str} {pt : Pos} (hN : X.N.Nodup) (hi : X.N[i]? = some x) (hx : Loc X.env.scope x) (ha : Sd g X a a') (hf : X.fn x = true ∨ X.env.scope.names.lookup x = some .local := by first | exact .inl rfl | exact .inr rfl | assumption) : SdS g X F (.AugAssign (.Name x pt) .Mult a pos) (.aug i .mul a') :=
 Ct (we hN hi hx ha Zw hf) fun D sg H q => zx (fun x y H Q ⟨k, e, q⟩ => by
  simp only [opD] at e
  split at e
  · rename_i h; cases e; exact ⟨x, y, rfl, rfl, h, q⟩
  · cases e) (fun x y st => by simp only [opD]; split <;> rfl) q
theorem Ms {rho : List Addr} {st : Sto} {H : Hp} {n k : Nat} {fs : List (Str × D)} (s : g.Sto rho st H) (h : st[n]? = some (.ins k fs)) : ∃ p dx ws, rho[n]? = some p ∧ H p = some (.ins (g.cls k) dx ws) ∧ ws.length = fs.length ∧ fk g.K rho H fs ws := by
 have hl : n < rho.length := by rw [s.len]; exact (List.getElem?_eq_some_iff.mp h).1
 obtain ⟨dx, ws, h1, h2, h3⟩ := s.cells n rho[n] _ (List.getElem?_eq_getElem hl) h
 exact ⟨_, dx, ws, List.getElem?_eq_getElem hl, h1, h2, h3⟩
theorem zy (r : fk g.K rho H fs ws) (h : fs.lookup f = some d) : ∃ v, ws.lookup f = some v ∧ g.Rep rho H d v := by
 have q := r f
 rw [h] at q
 cases e : ws.lookup f with
 | none => rw [e] at q; exact q.elim
 | some v => rw [e] at q; exact ⟨v, rfl, q⟩
theorem Zy (r : fk g.K rho H fs ws) (h : fs.lookup f = none) : ws.lookup f = none := by
 have q := r f
 rw [h] at q
 cases e : ws.lookup f with
 | none => rfl
 | some v => rw [e] at q; exact q.elim
theorem Em {f : Str} {k : Nat} (hcl : Cls X.K (g.cls k)) (hna : Cb X.K (g.cls k) f) (ha : Sd g X a a') (hb : attributeBase a f X.env (eval a X.env) = eval a X.env := by rfl) : Sd g X (.Attribute a f pos) (.fld k a' f) := bc (Xi ha hb) fun sg H Q q => by
 obtain ⟨rho, st, env, s, n, q⟩ := q
 simp only [Ab] at q
 refine step s n q fun x st1 v H1 r1 k1 s1 n1 rx q1 => ?_
 cases x with
 | loc m =>
  simp only at q1
  split at q1
  · rename_i k' fs e
    split at q1
    · rename_i d ed
      split at q1
      · rename_i hk
        subst hk
        obtain ⟨p, dx, ws, h1, h2, _, h3⟩ := Ms s1 e
        obtain ⟨p2, h4, rfl⟩ := bh.mp rx
        rw [h1] at h4; cases h4
        obtain ⟨w, e1, rw1⟩ := zy h3 ed
        exact ⟨p, g.cls k', dx, ws, w, rfl, h2, hcl, hna, e1, (show ar g rho H Q d st1 from q1) _ H1 r1 k1 s1 rw1⟩
      · exact q1.elim
    · exact q1.elim
  · exact q1.elim
 | _ => exact q1.elim
theorem Rf (f h : Str) (v : D) : ∀ fs : List (Str × D), (cy f v fs).lookup h = if h = f then some v else fs.lookup h
 | [] => by
  by_cases e : h = f
  · subst e; simp [cy]
  · simp [cy, List.lookup, e]; simp [beq_eq_false_iff_ne.mpr e]
 | (k, x) :: r => by
  unfold cy
  by_cases ek : k = f
  · subst ek
    rw [if_pos rfl]
    by_cases e : h = k
    · subst e; simp
    · simp [List.lookup_cons, beq_eq_false_iff_ne.mpr e, e]
  · rw [if_neg ek, List.lookup_cons, List.lookup_cons, Rf f h v r]
    by_cases e : h = k
    · subst e; simp [ek]
    · simp [beq_eq_false_iff_ne.mpr e]
theorem zz (f : Str) (v : V) (d : D) : ∀ {ws : List (Str × V)} {fs : List (Str × D)} {rho : List Addr} {H : Hp}, ws.length = fs.length → (ws.lookup f = none ↔ fs.lookup f = none) → (Bv f v ws).length = (cy f d fs).length := by
 have l1 : ∀ ws : List (Str × V), (Bv f v ws).length = if ws.lookup f = none then ws.length + 1 else ws.length := by
  intro ws
  induction ws with
  | nil => simp [Bv]
  | cons p r ih =>
   obtain ⟨k, x⟩ := p
   unfold Bv
   by_cases ek : k = f
   · subst ek; simp
   · have : (f == k) = false := beq_eq_false_iff_ne.mpr (Ne.symm ek)
     rw [if_neg ek, List.length_cons, ih, List.lookup_cons, this]
     split <;> simp_all
 have l2 : ∀ ws : List (Str × D), (cy f d ws).length = if ws.lookup f = none then ws.length + 1 else ws.length := by
  intro ws
  induction ws with
  | nil => simp [cy]
  | cons p r ih =>
   obtain ⟨k, x⟩ := p
   unfold cy
   by_cases ek : k = f
   · subst ek; simp
   · have : (f == k) = false := beq_eq_false_iff_ne.mpr (Ne.symm ek)
     rw [if_neg ek, List.length_cons, ih, List.lookup_cons, this]
     split <;> simp_all
 intro ws fs rho H hl hi
 rw [l1, l2, hl]
 by_cases e : fs.lookup f = none
 · rw [if_pos e, if_pos (hi.mpr e)]
 · rw [if_neg e, if_neg (fun z => e (hi.mp z))]
theorem Zz (r : fk g.K rho H fs ws) (rv : g.Rep rho H d v) : fk g.K rho H (cy f d fs) (Bv f v ws) := fun h => by
 rw [Rf, Ma]
 by_cases e : h = f
 · rw [if_pos e, if_pos e]; exact rv
 · rw [if_neg e, if_neg e]; exact r h
theorem Dj {o : Expr} {o' : E} {f : Str} {k : Nat} {pt : Pos} (hcl : Cls X.K (g.cls k)) (hna : Cb X.K (g.cls k) f) (ho : Sd g X o o') (ha : Sd g X a a') (hs : swapsWith a (some (.Attribute o f pt)) pos.line X.env = pure false := by rfl) : SdS g X F (.Assign [.Attribute o f pt] a pos) (.setf k o' f a') := Ct (xj ho ha hs) fun D sg H q => by
 obtain ⟨rho, st, env, s, n, q⟩ := q
 simp only [Ak] at q
 refine step s n q fun y st1 v H1 r1 k1 s1 n1 ry q1 => ?_
 refine step s1 n1 q1 fun x st2 u H2 r2 k2 s2 n2 rx q2 => ?_
 cases x with
 | loc m =>
  simp only at q2
  split at q2
  · rename_i k' fs e
    split at q2
    · rename_i hk
      obtain ⟨hl9, rfl⟩ := hk
      obtain ⟨p, dx, ws, h1, h2, hlen, h3⟩ := Ms s2 e
      obtain ⟨p2, h4, rfl⟩ := bh.mp rx
      rw [h1] at h4; cases h4
      refine ⟨p, g.cls k', dx, ws, rfl, h2, hcl, hna, by omega, ?_⟩
      have rv := ry.mono k2
      have hiff : ws.lookup f = none ↔ fs.lookup f = none := by
       have z := h3 f
       cases e1 : fs.lookup f <;> cases e2 : ws.lookup f <;> rw [e1, e2] at z <;> first | exact z.elim | simp
      obtain ⟨k3, s3⟩ := s2.wroteC (o := .ins (g.cls k') dx (Bv f v ws)) (c1 := .ins k' (cy f y fs)) h1 e rfl h2 ⟨fun _ => nofun, fun _ _ => nofun⟩ fun H3 eH kk => ⟨dx, _, eH, zz (rho := r2) (H := H2) f v y hlen hiff, (Zz h3 rv).mono kk⟩
      exact (show Bc g rho H D (.next env) _ from q2) _ _ r2 ((k1.trans k2).trans k3) s3 (n2.mono k3)
    · exact q2.elim
  · exact q2.elim
 | _ => exact q2.elim
variable {g : G} {X : Cx} {a b c : Expr} {a' b' c' : E} {pos apos : Pos} {rest es : List Expr} {es' : Es} {F : Nat}
theorem rg (hl : ∀ ds st, ds.length ≠ np → g.call f ds st = .bad) (s : g.Sto rho st H) (r : g.RepL rho H ds vs) (q : RQ g (g.call f ds st) (ar g rho H Q) rho H) : spD g.K g.cls np (g.call f) vs H Q g.xk := by
 have hlen : ds.length = np := Decidable.byContradiction fun z => by rw [hl _ _ z] at q; exact q
 refine ⟨by rw [← r.length]; exact hlen, rho, st, ds, s, r, ?_⟩
 revert q
 cases g.call f ds st with
 | ok d st' => exact fun q => q
 | exc c st' => exact fun q => q
 | bad => exact fun q => q
theorem Rg {c f : Nat} {m : Str} {fa : Addr} {o' : E} {np : Nat} {sg : L2.St} {H : Hp} {Q : VK} {t : TA} (hl : ∀ ds st, ds.length ≠ np → g.call f ds st = .bad)
 (ht : ∀ {rho st env H K}, g.Sto rho st H → g.Env rho H env sg → RQ g ((Av g.tab g.call es' env st).bind K) (ar g rho H Q) rho H → True) (q : tE g (.br c f m o' es') sg H Q) :
 (tE g o' sg H fun x H1 => ∃ p dx ws, x = .ref p ∧ H1 p = some (.ins (g.cls c) dx ws) ∧ ws.lookup m = none ∧ tEs g es' sg H1 fun vs H2 => spD g.K g.cls np (g.call f) (x :: (vs ++ [])) H2 Q g.xk) := by
 obtain ⟨rho, st, env, s, n, q⟩ := q
 simp only [Ab] at q
 refine step s n q fun x st1 v H1 r1 k1 s1 n1 rx q1 => ?_
 cases x with
 | loc j =>
  simp only at q1
  split at q1
  · rename_i c' fs e
    split at q1
    · rename_i hc
      obtain ⟨rfl, hn⟩ := hc
      obtain ⟨p, dx, ws, h1, h2, _, h3⟩ := Ms s1 e
      have rx' := rx
      obtain ⟨p2, h4, rfl⟩ := bh.mp rx
      rw [h1] at h4; cases h4
      refine ⟨p, dx, ws, rfl, h2, Zy h3 hn, Ej s1 n1 q1 fun ds st2 vs H2 r2 k2 s2 n2 rps q2 => ?_⟩
      rw [List.append_nil]
      exact rg hl s2 (by simp only [RepL]; exact ⟨_, _, rfl, rx'.mono k2, rps⟩) (RQ.mono (.refl _ _) q2 fun _ _ p => p.mono (k1.trans k2))
    · exact q1.elim
  · exact q1.elim
 | _ => exact q1.elim
theorem iu {pl : Sem Bool} (hcl : Cls X.K (g.cls cc)) (hm : Meth X.K (g.cls cc) m fa)
 (Fn : FnOk X.prog X.w X.K X.mg X.base (CXd X.prog X.w) k fa fd ps (spD g.K g.cls np (g.call f))) (hr : Room k X.A) (hb : Binds X.K fd ps []) (hx : Passes (CXd X.prog X.w) X g.xk) (hl : ∀ ds st, ds.length ≠ np → g.call f ds st = .bad)
 (ho : Sd g X o o') (ha : SdL g X (e :: es) es') (hst : starEach (e :: es) X.env = (false, eval e X.env) :: starEach es X.env := by rfl) (hpl : (backTo pos (starEach es X.env)).any (·.1) = false := by rfl)
 (ht : eval (.Call (.Attribute o m apos) (e :: es) [] pos) X.env = (do
  let ov ← eval o X.env
  standAt apos.atName
  let (f, first) ← holding [ov] (getMethod ov m pl)
  callWith pos f first (backTo pos (starEach (e :: es) X.env)) (backToKw pos (keywordEach [] X.env))) := by rfl) :
 Sd g X (.Call (.Attribute o m apos) (e :: es) [] pos) (.br cc f m o' es') :=
 bc (Xp (dvs := []) (ds := []) ho hcl hm Fn hr hb .nil hx ha hst hpl ht) fun sg H Q q => Rg (fa := fa) (t := fun _ _ _ => True) hl (fun _ _ _ => trivial) q
theorem Mu {cc k f : Nat} {m : Str} {fa : Addr} {fd : FuncData} {ps : List Str} {o : Expr} {o' : E} {np : Nat} {pl : Sem Bool} (hcl : Cls X.K (g.cls cc)) (hm : Meth X.K (g.cls cc) m fa)
 (Fn : FnOk X.prog X.w X.K X.mg X.base (CXd X.prog X.w) k fa fd ps (spD g.K g.cls np (g.call f))) (hr : Room k X.A) (hb : Binds X.K fd ps []) (hx : Passes (CXd X.prog X.w) X g.xk) (hl : ∀ ds st, ds.length ≠ np → g.call f ds st = .bad)
 (ho : Sd g X o o')
 (ht : eval (.Call (.Attribute o m apos) [] [] pos) X.env = (do
  let ov ← eval o X.env
  standAt apos.atName
  let (f, first) ← holding [ov] (getMethod ov m pl)
  callWith pos f first (backTo pos (starEach [] X.env)) (backToKw pos (keywordEach [] X.env))) := by rfl) :
 Sd g X (.Call (.Attribute o m apos) [] [] pos) (.br cc f m o' .nil) :=
 bc (xq (dvs := []) (ds := []) ho hcl hm Fn hr hb .nil hx ht) fun sg H Q q => by
  have z := Rg (fa := fa) (t := fun _ _ _ => True) hl (fun _ _ _ => trivial) q
  obtain ⟨rho, st, env, s, n, z⟩ := z
  refine ⟨rho, st, env, s, n, RQ.mono (.refl _ _) z fun d st' h v H' rho' k1 s1 r1 => ?_⟩
  obtain ⟨p, dx, ws, e1, e2, e3, e4⟩ := h v H' rho' k1 s1 r1
  refine ⟨p, dx, ws, e1, e2, e3, ?_⟩
  obtain ⟨rho2, st2, env2, s2, n2, q2⟩ := e4
  simp only [Av] at q2
  exact (show mh g rho2 H' _ [] st2 from q2) [] H' rho2 (.refl _ _) s2 (by simp [RepL])
theorem aaa (hl : ∀ ds st, ds.length ≠ np → g.call f ds st = .bad) (s : g.Sto rho st H) (r : g.RepL rho H ds vs)
 (q : RQ g ((g.call f (.loc st.length :: ds) (st ++ [.ins cc []])).bind fun r st' => match r with | .non => .ok (.loc st.length) st' | _ => .bad) (ar g rho H Q) rho H) :
 ∀ x dx, H x = none → H dx = none → dx ≠ x → spD g.K g.cls np (g.call f) (.ref x :: (vs ++ [])) (upd (upd H dx (.own x)) x (.ins (g.cls cc) dx [])) (fun v H2 => v = .non ∧ Q (.ref x) H2) g.xk := by
 intro x dx hx hdx hne
 have e1 := Gh hdx (.own x)
 have s1 := s.same e1
 have hx1 : upd H dx (.own x) x = none := by rw [Bf (Ne.symm hne)]; exact hx
 obtain ⟨k2, s2⟩ := s1.laid hx1 (o := .ins (g.cls cc) dx []) (c := .ins cc []) ⟨dx, [], Cf, rfl, fun f => trivial⟩
 have kk := (Bp.keep e1 rho).trans k2
 rw [List.append_nil]
 refine rg hl s2 (ds := .loc st.length :: ds) (by simp only [RepL]; exact ⟨_, _, rfl, bh.mpr ⟨x, by rw [← s.len]; simp, rfl⟩, r.mono kk⟩) ?_
 revert q
 cases g.call f (.loc st.length :: ds) (st ++ [.ins cc []]) with
 | bad => exact fun q => q
 | exc c st' => exact fun q H' rho' k s' => q H' rho' (kk.trans k) s'
 | ok d st' =>
  simp only [Bj]
  cases d with
  | non =>
   intro q v H' rho' k s' rv
   refine ⟨Dc.mp rv, (show ar g rho H Q (.loc st.length) st' from q) _ H' rho' (kk.trans k) s' (bh.mpr ⟨x, k.at ?_, rfl⟩)⟩
   rw [← s.len]; simp
  | _ => exact fun q => q.elim
theorem Mv {p : Pos} (M : Mk X.K (g.cls cc) fa) (Fn : FnOk X.prog X.w X.K X.mg X.base (CXd X.prog X.w) k fa fd ps (spD g.K g.cls np (g.call f))) (hr : Room (k + 1) X.A) (hg : Gl X x) (hm : X.mg x = some (.ref (g.cls cc)))
 (hb : Binds X.K fd ps []) (hx : Passes (CXd X.prog X.w) X g.xk) (hl : ∀ ds st, ds.length ≠ np → g.call f ds st = .bad) (ha : SdL g X (e :: es) es') (hdb : (x == ("__debug__" : Str)) = false := by decide) (he : starEach (e :: es) X.env = (false, eval e X.env) :: starEach es X.env := by rfl) (hpl : (backTo pos (starEach es X.env)).any (·.1) = false := by rfl) :
 Sd g X (.Call (.Name x p) (e :: es) [] pos) (.mk cc f es') := bc (xr (dvs := []) (ds := []) M Fn hr hg hm hb .nil hx ha hdb he hpl) fun sg H Q q => by
 obtain ⟨rho, st, env, s, n, q⟩ := q
 simp only [Ab] at q
 refine Ej s n q fun ds st1 vs H1 r1 k1 s1 n1 rps q1 => ?_
 exact aaa hl s1 rps (RQ.mono (.refl _ _) q1 fun _ _ p => p.mono k1)
variable {g : G} {X : Cx} {a b c : Expr} {a' b' c' : E} {pos apos cpos : Pos} {rest es : List Expr} {es' : Es} {F : Nat}
theorem aab (h : Hd st d = true) : ∃ m xs, d = .loc m ∧ st[m]? = some (.lst xs) := by
 cases d with
 | loc m =>
  simp only [Hd] at h
  split at h
  · rename_i xs e; exact ⟨m, xs, rfl, e⟩
  · cases h
 | _ => cases h
theorem RepL.dropLast : ∀ {ds : List D} {vs : List V}, g.RepL rho H ds vs → g.RepL rho H ds.dropLast vs.dropLast
 | [], vs, r => by simp only [DD.RepL] at r; subst r; simp [DD.RepL]
 | [d], vs, r => by
  simp only [DD.RepL] at r
  obtain ⟨v, w, rfl, _, rfl⟩ := r
  simp [DD.RepL]
 | d :: e :: t, vs, r => by
  simp only [DD.RepL] at r
  obtain ⟨v, w, rfl, r1, v2, w2, rfl, r2, r3⟩ := r
  show g.RepL rho H (d :: (e :: t).dropLast) (v :: (v2 :: w2).dropLast)
  simp only [DD.RepL]
  exact ⟨v, _, rfl, r1, RepL.dropLast (ds := e :: t) (vs := v2 :: w2) (by simp only [DD.RepL]; exact ⟨v2, w2, rfl, r2, r3⟩)⟩
theorem aac (hK : X.K = g.K) (ho : Sd g X o o') (hbase : attributeBase o "pop" X.env (eval o X.env) = eval o X.env := by rfl) (hline : (apos.endLine == cpos.line) = true := by rfl) : Sd g X (.Call (.Attribute o "pop" apos) [] [] cpos) (.mt .pop o' .nil) :=
 bc (yd PySem.F.plainAttrs_list PySem.F.slot_list_pop PySem.F.type_list_pop Yf ho hbase hline) fun sg H Q q => by
  obtain ⟨rho, st, env, s, n, q⟩ := q
  simp only [Ab] at q
  refine step s n q fun d st1 x H1 r1 k1 s1 n1 rp q1 => ?_
  split at q1
  · rename_i hl
    obtain ⟨m, xs, rfl, el⟩ := aab hl
    obtain ⟨p, vs, hr, hH, rl⟩ := gi s1 el
    obtain ⟨p2, hr2, rfl⟩ := bh.mp rp
    rw [hr] at hr2; cases hr2
    simp only [Av, Bj, mtD, el] at q1
    split at q1
    · rename_i d ed
      rw [List.getLast?_eq_getElem?] at ed
      obtain ⟨w, e1, rw1⟩ := rl.get ed
      rw [rl.length] at e1
      refine ⟨.inl ⟨rfl, vs, SqL.of hH⟩, p, vs, w, rfl, rfl, hH, e1, ?_⟩
      obtain ⟨k3, s3⟩ := s1.wrote hr el hH (RepL.dropLast rl)
      exact (show ar g rho H Q d _ from q1) _ _ r1 (k1.trans k3) s3 (rw1.mono k3)
    · exact q1.elim
  · exact q1.elim
theorem rh : ∀ {ds : List D} {vs : List V} {us : List Value} {bs : List Bool}, g.RepL rho H ds vs → Vals vs us → Eh ds = some bs → us = bs.map Value.bool
 | [], vs, us, bs, r, rv, e => by
  simp only [RepL] at r; subst r
  cases rv
  simp [Eh] at e; subst e; rfl
 | d :: t, vs, us, bs, r, rv, e => by
  simp only [RepL] at r
  obtain ⟨v, w, rfl, r1, r2⟩ := r
  cases d with
  | bl b =>
   simp only [Eh] at e
   cases et : Eh t with
   | none => rw [et] at e; cases e
   | some bs' =>
    rw [et] at e; cases e
    cases bg.mp r1
    cases rv with
    | cons q1 q2 =>
     cases q1
     rw [rh r2 q2 et]; rfl
  | _ => cases e
theorem range_all (bs : List Bool) : (List.range bs.length).all (fun i => bs.getD i false) = bs.all id := by
 rw [Bool.eq_iff_iff, List.all_eq_true, List.all_eq_true]
 constructor
 · intro h b hb
   obtain ⟨i, hi, rfl⟩ := List.mem_iff_getElem.mp hb
   have := h i (List.mem_range.mpr hi)
   simpa [hi] using this
 · intro h i hi
   have hi := List.mem_range.mp hi
   have := h bs[i] (List.getElem_mem hi)
   simpa [hi] using this
def mw (g : G) (all : Bool) : List V → Hp → VK → Prop := fun xs H Q => ∃ rho st m ds bs p, xs = [.ref p] ∧ g.Sto rho st H ∧ rho[m]? = some p ∧ av st m = some ds ∧ Eh ds = some bs ∧ Q (.bl (if all then bs.all id else bs.any id)) H
theorem aad (hK : X.K = g.K) (hc : X.calm = true) {R : Bool → Prop} (I : Inv X pins sg H s) (S : g.Sto rho st H) (hr : rho[m]? = some p) (hl : av st m = some ds) (hb : Eh ds = some bs)
 (hQ : ∀ (it : Addr) (s₂ : Shared) (fp wr : List Addr) (P : Nat → Value → Prop) (St : Nat → Heap → Prop), Walks X.prog X.w X.A.in1 it fp wr bs.length P St → St 0 s₂.heap → TruthOf X.prog X.w X.A.in1 P (fun i => bs.getD i false) →
  (∀ h' tk, (∀ b o, b ∉ wr → s₂.heap.get? b = some o → h'.get? b = some o) → Inv X pins sg H { s₂ with heap := h', toks := tk }) → QQ (.ref it) s₂) :
 wpAny (model X.prog X.w) X.A.in1 (pyIter (.ref p)) QQ X.xe s := by
 obtain ⟨p2, vs, h1, sq, rl⟩ := Ek S hl
 rw [hr] at h1; cases h1
 rw [← hK] at sq
 obtain ⟨its, rv, pl, hz⟩ := I.list sq
 have e := rh rl rv hb
 subst e
 have hlt : p < s.heap.objs.size := by
  obtain ⟨o, ho, _⟩ := pl.isList
  exact Heap.lt_size ho
 refine wpAny_pyIter_list pl.isList (hQ _ _ [s.heap.objs.size, p] [s.heap.objs.size] (fun i v => (bs.map Value.bool).toArray[i]? = some v) (fun i h => h.IsListIter s.heap.objs.size p i ∧ h.IsList p (bs.map Value.bool).toArray) ?_ ⟨?_, ?_⟩ ?_ ?_)
 · have W := Walks.list (prog := X.prog) (w := X.w) (A := X.A.in1) (I.ok.hd hc) s.heap.objs.size p (Nat.ne_of_lt hlt) (bs.map Value.bool).toArray
   simpa using W
 · exact ⟨_, Heap.get?_push_size _ rfl, rfl, rfl⟩
 · exact pl.isList.push _
 · intro i v s Q E hP hQ
   have hP : (bs.map Value.bool)[i]? = some v := by simpa using hP
   rw [List.getElem?_map] at hP
   cases eb : bs[i]? with
   | none => rw [eb] at hP; cases hP
   | some b =>
    rw [eb] at hP; cases hP
    have : bs.getD i false = b := by simp [List.getD, eb]
    have hQ : Q (bs.getD i false) s := hQ
    rw [this] at hQ
    exact wpAny_truthy_bool hQ
 · intro h' tk hk
   refine I.kept (t' := tk) (h' := h') fun b u e => hk b u ?_ (Heap.get?_push_of_some _ e)
   intro z
   simp at z
   subst z
   exact Nat.lt_irrefl _ (Heap.lt_size e)
theorem aae (hK : X.K = g.K) (hc : X.calm = true) : dm X (.builtin "all") (mw g true) := by
 rintro pins s sg H xs us Q I r ⟨rho, st, m, ds, bs, p, rfl, S, hr, hl, hb, q⟩
 obtain ⟨u, rfl, ru⟩ := vals1 r
 cases ru
 refine call_all_walk (aad (R := fun _ => True) hK hc I S hr hl hb fun it s₂ fp wr P St W hst htr hk => ⟨it, fp, wr, bs.length, P, St, _, rfl, W, hst, htr, fun h' tk k => ?_⟩)
 rw [range_all]
 exact ⟨.bl _, H, hk h' tk k, rfl, q⟩
theorem aaf (hf : f = if al then .allB else .anyB) (s : g.Sto rho st H) (r : g.RepL rho H ds vs) (q : RQ g (btD f ds st) (ar g rho H Q) rho H) : mw g al vs H Q := by
 obtain ⟨d, rfl⟩ := Kl q
 obtain ⟨v, rfl, r1⟩ := Hf r
 have go : ∀ n, d = .loc n → (∃ bs, (av st n).bind Eh = some bs ∧ ar g rho H Q (.bl (if al then bs.all id else bs.any id)) st) → mw g al [v] H Q := by
  rintro n rfl ⟨bs, e, q⟩
  cases el : av st n with
  | none => rw [el] at e; cases e
  | some xs =>
   rw [el] at e
   obtain ⟨p, h1, rfl⟩ := bh.mp r1
   exact ⟨rho, st, n, xs, bs, p, rfl, s, h1, el, e, q _ H rho (.refl _ _) s (bg.mpr rfl)⟩
 cases al with
 | true =>
  subst hf
  cases d with
  | loc n =>
   simp only [if_true, btD] at q
   split at q
   · rename_i bs e; exact go n rfl ⟨bs, e, q⟩
   · exact q.elim
  | _ => exact q.elim
 | false =>
  subst hf
  cases d with
  | loc n =>
   simp only [Bool.false_eq_true, if_false, btD] at q
   split at q
   · rename_i bs e; exact go n rfl ⟨bs, e, q⟩
   · exact q.elim
  | _ => exact q.elim
theorem jn {p : Pos} (hK : X.K = g.K) (hc : X.calm = true) (hg : Gl X "all") (hm : X.mg "all" = none) (ha : SdL g X (e :: es) es') (he : starEach (e :: es) X.env = (false, eval e X.env) :: starEach es X.env := by rfl) (hpl : (backTo pos (starEach es X.env)).any (·.1) = false := by rfl) :
 Sd g X (.Call (.Name "all" p) (e :: es) [] pos) (.bt .allB es') := bc (jj (aae hK hc) hg hm rfl ha (by decide) (by decide) he hpl) fun sg H Q q => bts (f := .allB) (fun ds vs st rho H Q s r q => aaf (al := true) rfl s r q) q
end DD
namespace DD
open PySem PySem.Spec L2
open PyProof.Rows hiding St RelV
variable {g : G} {X : Cx} {pos : Pos} {F : Nat}
def ko (g : G) (e : Es) : TT := fun sg H Q => ∃ rho st env, g.Sto rho st H ∧ g.Env rho H env sg ∧ RQ g (Cz g.tab g.call e env st) (dc g rho H Q) rho H
def PTs (X : Cx) (ifs : List Expr) (t : TT) : Prop := ∀ (pins : List (Addr × Obj)) (s : Shared) (sg : L2.St) (H : Hp) (Q : Bool → Hp → Prop), Inv X pins sg H s → t sg H Q →
 wpAny (model X.prog X.w) X.A (forIn ifs true fun c r => if r = true then do let ok ← isTrue c X.env (eval c X.env); pure (ForInStep.yield ok) else pure (ForInStep.yield r)) (TP X pins sg Q) X.xe s
theorem Dx : PTs X [] (ko g .nil) := fun pins s sg H Q I q => by
 obtain ⟨rho, st, env, S, n, q⟩ := q
 simp only [Cz] at q
 exact wpAny_tests_nil ⟨H, I, (show dc g rho H Q true st from q) H rho (.refl _ _) S⟩
abbrev Mw (X : Cx) (scope : Scope) (cl : List (Str × Addr)) (L : Addr) : PySem.Env := { newEnv scope L X.env.globals cl X.env.qual none .none (some X.env) builtinsNs with scope := relabel scope X.env }
abbrev cxG (X : Cx) (N : List Str) (scope : Scope) (cl : List (Str × Addr)) (L : Addr) (s0 : Shared) (H0 : Hp) (fp : List Addr) (pn : List (Addr × Obj)) : Cx :=
 { X with N := N, s₀ := s0, H₀ := H0, env := Mw X scope cl L, outer := X.stack, stack := X.stack, ex := fp, fn := fun x => (cl.lookup x).isNone, pn := pn, xe := fun _ _ => False }
theorem mx (I : L2.Inv X pins sg H s) (h : Cv X pins H2 b) : b ∉ frs X.stack := fun hm => by
 rcases List.mem_cons.mp (I.stkSub b hm) with z | z
 · exact h.2.1 z
 · exact h.2.2.1 z
structure Clos (X : Cx) (scope : Scope) (cl : List (Str × Addr)) : Prop where
 sub : ∀ x c, cl.lookup x = some c → X.env.cells.lookup x = some c
 has : ∀ x, ((relabel scope X.env).names.lookup x = some .cell ∨ (relabel scope X.env).names.lookup x = some .free) → ∃ c, cl.lookup x = some c
theorem Rh {pins : List (Addr × Obj)} {sg : L2.St} {H : Hp} {s3 : Shared} {N : List Str} {nl : Nat} {fv : List Nat} {scope : Scope} {cl : List (Str × Addr)} {fp : List Addr} {h1 : Heap} {m : Str → Option Value} {tk : Nat} (hkind : scope.kind = .function) (C : Clos X scope cl)
 (hN : N.length = nl + fv.length) (hfv : ∀ j k, fv[j]? = some k → ∃ x c, N[nl + j]? = some x ∧ X.N[k]? = some x ∧ cl.lookup x = some c ∧ (X.env.scope.names.lookup x = some .cell ∨ X.env.scope.names.lookup x = some .free) ∧ ((relabel scope X.env).names.lookup x = some .cell ∨ (relabel scope X.env).names.lookup x = some .free))
 (I : L2.Inv X pins sg H s3) (hfp : ∀ b ∈ fp, Cv X pins H b ∧ b < s3.heap.objs.size) (hn : h1.Ns s3.heap.objs.size m) (hk : ∀ b o, s3.heap.get? b = some o → h1.get? b = some o) :
 L2.Inv (cxG X N scope cl s3.heap.objs.size s3 H fp (X.pn ++ pins)) [] (List.replicate nl none ++ fv.map fun k => (sg[k]?).join) H { s3 with heap := h1, toks := tk } := by
 have fsF : ∀ b, b < s3.heap.objs.size → b ≠ s3.heap.objs.size := fun b h z => by rw [z] at h; exact Nat.lt_irrefl _ h
 refine ⟨⟨I.ok.mod, hkind, I.ok.glob, I.ok.blt, Nat.le_refl _, fun x y c h1 h2 => I.ok.inj x y c (C.sub x c h1) (C.sub y c h2), fun y hy => C.has y hy, fun y c hy h => ?_, I.ok.hd, I.ok.frames, .inl rfl, fun b hb => ⟨fsF b (hfp b hb).2, fun y c h => (hfp b hb).1.2.2.2.2.1 y c (C.sub y c h)⟩, I.bs, Nat.le_trans I.ok.bsz I.sz, fun b o e hb => ?_, fun b hb => mx I (hfp b hb).1, I.stack, I.stkFree⟩,
  rfl, I.bare, Un.kept hk, ⟨m, hn, fun i y v e1 e2 _ => ?_⟩, fun y c h => ?_, I.hok.fresh (Nat.le_refl _), fun y c h => I.freeC y c (C.sub y c h), fun p hp => ?_, I.hok.kept hk, ?_⟩
 · have h : cl.lookup y = some c := h
   have hy : (cl.lookup y).isNone = true := hy
   rw [h] at hy; cases hy
 · obtain ⟨f, _⟩ := hfp b hb
   rcases f.2.2.2.1 with z | z
   · exact I.ok.noex b o e z
   · exact absurd (Nat.lt_of_lt_of_le (Heap.lt_size e) (Nat.le_trans I.ok.bsz z)) (Nat.lt_irrefl _)
 · by_cases hi : i < nl
   · rw [List.getElem?_append_left (by simpa using hi), List.getElem?_replicate] at e2
     split at e2 <;> cases e2
   · rw [List.getElem?_append_right (by simp; omega)] at e2
     simp only [List.length_replicate, List.getElem?_map] at e2
     cases ek : fv[i - nl]? with
     | none => rw [ek] at e2; cases e2
     | some k =>
      rw [ek] at e2
      simp only [Option.map_some, Option.some.injEq] at e2
      obtain ⟨x, c, n1, n2, n3, n4, n5⟩ := hfv _ k ek
      have ei : nl + (i - nl) = i := by omega
      rw [ei] at n1
      have e1 : N[i]? = some y := e1
      rw [n1] at e1; cases e1
      have e3 : sg[k]? = some (some v) := by
       cases z : sg[k]? with
       | none => rw [z] at e2; cases e2
       | some o => rw [z] at e2; cases o with
        | none => cases e2
        | some w => cases e2; rfl
      obtain ⟨m0, hm0, hl⟩ := I.loc
      obtain ⟨u, ru, lk⟩ := hl k _ v n2 e3 (by rcases n4 with z | z; exact .inr (.inl z); exact .inr (.inr z))
      refine ⟨u, ru, .inr ⟨n5, c, n3, ?_⟩⟩
      rcases lk with ⟨k1, _⟩ | ⟨_, c2, k2, k3⟩
      · have k1 : X.env.scope.names.lookup y = some .local := k1
        rcases n4 with z | z <;> (rw [z] at k1; cases k1)
      · rw [C.sub _ c n3] at k2; cases k2
        obtain ⟨o, ho, hd⟩ := k3
        exact ⟨o, hk _ _ ho, hd⟩
 · obtain ⟨v, o, ho, hd⟩ := I.cell y c (C.sub y c h)
   exact ⟨v, o, hk _ _ ho, hd⟩
 · rw [List.append_nil] at hp
   obtain ⟨p1, p2, p3, p4, p5⟩ := I.pin p hp
   refine ⟨hk _ _ p1, p2, fsF _ (Heap.lt_size p1), fun hm => ?_, p5⟩
   rcases List.mem_cons.mp (I.stkSub p.1 hm) with z | z
   · exact p3 z
   · exact p4 z
 · show (List.replicate nl none ++ fv.map _).length = N.length
   simp [hN]
theorem aag (I : Nat → Shared → Prop)
 (turn : ∀ n s, I n s → wpAny (model prog w) A (pyNext it) (fun r s₁ => match r with
  | none => R (.ok .next) s₁
  | some v => wpAny (model prog w) A (letOwnedTupleGo target it v) (fun _ s₁ => wpAny (model prog w) A (assign target env v) (fun _ s₂ =>
   wpAny (model prog w) A (forIn ifs true fun c r => if r = true then do let ok ← isTrue c env (eval c env); pure (ForInStep.yield ok) else pure (ForInStep.yield r)) (fun ok s₃ =>
    if ok = true then wpAny (model prog w) A (eval elt env) (fun x s₄ =>
     wpAny (model prog w) A (call (.builtin "list.append") [acc, x]) (fun _ s₅ => ∃ m, m < n ∧ I m s₅) (notedBy (model prog w) A env fun e s' => R (.error e) s') s₄) (notedBy (model prog w) A env fun e s' => R (.error e) s') s₃
    else ∃ m, m < n ∧ I m s₃) (notedBy (model prog w) A env fun e s' => R (.error e) s') s₂) (notedBy (model prog w) A env fun e s' => R (.error e) s') s₁) (notedBy (model prog w) A env fun e s' => R (.error e) s') s₁) (notedBy (model prog w) A env fun e s' => R (.error e) s') s)
 (n : Nat) (h : I n s) : codeAny (model prog w) A (.compLoop (.ListComp elt [⟨target, iter, ifs, 0⟩] scope pos) 0 it acc env) R s := by
 refine codeAny_loop rfl I (fun n s hI => ?_) n h
 show wpAny _ _ ((compTurn (.ListComp elt [⟨target, iter, ifs, 0⟩] scope pos) 0 it acc env).onRaise (fun x => do noteFrame x env; theTreesLotGoes x)) _ _ s
 refine wpAny_noted ?_
 rw [compTurn_list]
 refine wpAny_bind (wpAny_standAt (wpAny_bind (wpAny_mono (turn n s hI) (fun r s₁ h₁ => ?_) fun _ _ h' => h')))
 cases r with
 | none => exact wpAny_pure h₁
 | some v =>
  refine wpAny_bind (wpAny_mono h₁ (fun _ s₁ h₁ => ?_) fun _ _ h' => h')
  refine wpAny_bind (wpAny_mono h₁ (fun _ s₂ h₂ => wpAny_bind (wpAny_mono h₂ (fun ok s₃ h₃ => ?_) fun _ _ h' => h')) fun _ _ h' => h')
  cases ok with
  | false => exact wpAny_pure ⟨rfl, h₃⟩
  | true =>
   exact wpAny_bind (wpAny_bind (wpAny_mono h₃ (fun x s₄ h₄ => wpAny_bind (wpAny_mono h₄ (fun _ s₅ h₅ => wpAny_pure (wpAny_pure ⟨rfl, h₅⟩)) fun _ _ h' => h')) fun _ _ h' => h'))
variable {g : G} {X : Cx} {pos : Pos} {F : Nat}
def ItJ (g : G) (J : It) (xs : List D) (p : Option Nat) (r1 : List Addr) (H1 : Hp) : Prop := ∀ rho st H, g.Keep r1 H1 rho H → g.Sto rho st H → stays st p xs = true → J.stop xs.length H ∧ ∀ (i : Nat) (d : DD.D), xs[i]? = some d → J.go i H ∧ ∀ x H', J.yld i H x H' → Bp H H' ∧ g.Rep rho H' d x
theorem Mx (e : H' = H) (r : g.Rep rho H d x) : Bp H H' ∧ g.Rep rho H' d x := by
 subst e; exact ⟨fun _ _ h => h, r⟩
def SdI (g : G) (X : Cx) (target iter : Expr) (n : Nat) (it' : E) : Prop := ∃ wi : TI, PI X target iter wi ∧ ∀ rho st env sg H (R : It → Hp → Prop), g.Sto rho st H → g.Env rho H env sg →
 RQ g (Ab g.tab g.call it' env st) (fun d st1 => ∃ xs p, Ei n st1 d = some (xs, p) ∧ ∀ H1 r1 J, g.Keep rho H r1 H1 → g.Sto r1 st1 H1 → ItJ g J xs p r1 H1 → R J H1) rho H → wi sg H R
theorem fq (hK : X.K = g.K) (h : Sd g X iter it') : SdI g X target iter 0 it' := by
 refine ⟨_, Oz h, fun rho st env sg H R s n q => ?_⟩
 refine ⟨rho, st, env, s, n, ?_⟩
 revert q
 cases Ab g.tab g.call it' env st with
 | bad => exact fun q => q
 | exc c st1 => exact fun q => q
 | ok d st1 =>
  rintro ⟨xs, p, e, q⟩ v H1 r1 k1 s1 rv
  cases d with
  | loc m =>
   simp only [Ei] at e
   cases el : av st1 m with
   | none => rw [el] at e; cases e
   | some ds =>
    rw [el] at e; cases e
    obtain ⟨a, vs, hr, sq, rl⟩ := Ek s1 el
    obtain ⟨a2, hr2, rfl⟩ := bh.mp rv
    rw [hr] at hr2; cases hr2
    refine ⟨a, rfl, ⟨vs, by rw [hK]; exact sq⟩, q H1 r1 _ k1 s1 ?_⟩
    rw [hK]
    intro rho st H kk s hst
    have hst : av st m = some xs := odt hst
    obtain ⟨p3, ws, hr3, sq3, rl3⟩ := Ek s hst
    rw [kk.at hr] at hr3; cases hr3
    refine ⟨⟨ws, sq3, by rw [← rl3.length]; exact Nat.le_refl _⟩, fun i d hd => ?_⟩
    obtain ⟨v, hv, rv⟩ := rl3.get hd
    refine ⟨⟨ws, v, sq3, hv⟩, fun x H' y => Mx y.1 ?_⟩
    have := y.2 ws sq3
    rw [hv] at this; cases this
    exact rv
  | _ => cases e
theorem aah (hK : X.K = g.K) (h : Sd g X iter it') : SdI g X target iter 1 it' := by
 refine ⟨_, Pa h, fun rho st env sg H R s n q => ?_⟩
 refine ⟨rho, st, env, s, n, ?_⟩
 revert q
 cases Ab g.tab g.call it' env st with
 | bad => exact fun q => q
 | exc c st1 => exact fun q => q
 | ok d st1 =>
  rintro ⟨xs, p, e, q⟩ v H1 r1 k1 s1 rv
  cases d with
  | tup ds =>
   simp only [Ei] at e; cases e
   obtain ⟨a, vs, rfl, sq, rl⟩ := bz.mp rv
   refine ⟨a, rfl, ⟨vs, by rw [hK]; exact sq⟩, q H1 r1 _ k1 s1 ?_⟩
   rw [hK]
   intro rho st H kk s hst
   have sq3 := kk.tup a vs sq
   have rl3 := rl.mono kk
   refine ⟨⟨vs, sq3, by rw [← rl3.length]; exact Nat.le_refl _⟩, fun i d hd => ?_⟩
   obtain ⟨v, hv, rv⟩ := rl3.get hd
   refine ⟨⟨vs, v, sq3, hv⟩, fun x H' y => Mx y.1 ?_⟩
   have := y.2 vs sq3
   rw [hv] at this; cases this
   exact rv
  | _ => cases e
def my (g : G) (tg : List Nat) (one : Bool) (env0 : Env) (ifs : Es) (elt : E) (d : D) (st : Sto) : Res (Option D) := match store tg one d env0 with
 | some env' => (Cz g.tab g.call ifs env' st).bind fun b st => if b then (Ab g.tab g.call elt env' st).bind fun y st => .ok (some y) st else .ok none st
 | none => .bad
theorem mz : ∀ {xs : List D} {st : Sto}, compLoop all p n0 body xs st ≠ .exc c st'
 | [], st => by
  simp only [compLoop]
  split <;> (intro h; cases h)
 | d :: r, st => by
  simp only [compLoop]
  split
  · split
    · split
      · split
        · exact mz
        · intro h; cases h
      · intro h; cases h
    · exact mz
    · intro h; cases h
  · intro h; cases h
theorem Mz : ∀ {is : List Nat} {ds : List D} {env env' : Env}, By is ds env = some env' → (∀ i ∈ is, i < nl) → env'.length = env.length ∧ ∀ j, nl ≤ j → env'[j]? = env[j]?
 | [], [], env, env', e, _ => by simp only [By] at e; cases e; exact ⟨rfl, fun _ _ => rfl⟩
 | [], _ :: _, env, env', e, _ => by simp [By] at e
 | _ :: _, [], env, env', e, _ => by simp [By] at e
 | i :: r, d :: t, env, env', e, h => by
  simp only [By] at e
  split at e
  · obtain ⟨h1, h2⟩ := Mz e fun k hk => h k (List.mem_cons_of_mem _ hk)
    have hi := h i List.mem_cons_self
    refine ⟨by rw [h1]; simp, fun j hj => ?_⟩
    rw [h2 j hj, List.getElem?_set_ne (by omega)]
  · cases e
theorem ri (e : store is one d env = some env') (h : ∀ i ∈ is, i < nl) : env'.length = env.length ∧ ∀ j, nl ≤ j → env'[j]? = env[j]? := by
 unfold store at e
 cases one with
 | true => rw [if_pos rfl] at e; exact Mz e h
 | false =>
  rw [if_neg Bool.false_ne_true] at e
  cases d with
  | tup ds => exact Mz e h
  | _ => cases e
theorem Ri (h : (Co nl fv env)[j]? = some (some d)) : nl ≤ j ∧ ∃ k, fv[j - nl]? = some k ∧ cz env k = some d := by
 unfold Co at h
 by_cases hj : j < nl
 · rw [List.getElem?_append_left (by simpa using hj), List.getElem?_replicate] at h
   split at h <;> cases h
 · refine ⟨by omega, ?_⟩
   rw [List.getElem?_append_right (by simp; omega)] at h
   simp only [List.length_replicate, List.getElem?_map] at h
   cases ek : fv[j - nl]? with
   | none => rw [ek] at h; cases h
   | some k => rw [ek] at h; simp only [Option.map_some, Option.some.injEq] at h; exact ⟨k, rfl, h⟩
theorem aai (h : cz env k = some d) : env[k]? = some (some d) := by
 unfold cz at h
 cases z : env[k]? with
 | none => rw [z] at h; cases h
 | some o => rw [z] at h; cases o with
  | none => cases h
  | some y => cases h; rfl
theorem rj (n : g.Env rho H env sg) (nl : Nat) (fv : List Nat) : g.Env rho H (Co nl fv env) (List.replicate nl none ++ fv.map fun k => (sg[k]?).join) := by
 refine ⟨by simp [Co], fun j d e => ?_⟩
 obtain ⟨hj, k, ek, ed⟩ := Ri e
 obtain ⟨v, e1, r⟩ := n.val k d (aai ed)
 refine ⟨v, ?_, r⟩
 rw [List.getElem?_append_right (by simp; omega)]
 simp [ek, e1]
theorem Rj (h0 : env0 = Co nl fv env) (hl : env'.length = env0.length) (hh : ∀ j, nl ≤ j → env'[j]? = env0[j]?) (n : g.Env rho H env' sg) : g.Env rho H env0 sg := by
 subst h0
 refine ⟨by rw [← hl]; exact n.len, fun j d e => ?_⟩
 obtain ⟨hj, _⟩ := Ri e
 exact n.val j d (by rw [hh j hj]; exact e)
variable {g : G} {X : Cx} {pos : Pos} {F : Nat}
theorem aaj {elt iter target : Expr} {ifs : List Expr} {N : List Str} {nl : Nat} {fv tgs : List Nat} {one : Bool} {k : Nat} {scope : Scope} {cl : List (Str × Addr)} {it' elt' : E} {ifs' : Es} (hK : X.K = g.K) (hc : X.calm = true) (hkind : scope.kind = .function) (hcell : ∀ y ∈ scope.names, y.2 ≠ .cell)
 (hnames : ∀ y ∈ scope.names, y.2 = .local → scope.names.lookup y.1 = some .local) (hclos : closureFor scope X.env = pure cl) (C : Clos X scope cl) (hN : N.length = nl + fv.length)
 (hfv : ∀ j k, fv[j]? = some k → ∃ x c, N[nl + j]? = some x ∧ X.N[k]? = some x ∧ cl.lookup x = some c ∧ (X.env.scope.names.lookup x = some .cell ∨ X.env.scope.names.lookup x = some .free) ∧ ((relabel scope X.env).names.lookup x = some .cell ∨ (relabel scope X.env).names.lookup x = some .free))
 (htg : ∀ i ∈ tgs, i < nl) (hi : SdI g X target iter k it') (hg : ∀ L s0 H0 fp pn, PG (cxG X N scope cl L s0 H0 fp pn) target (tg g.K tgs one))
 (ht : ∀ L s0 H0 fp pn, PTs (cxG X N scope cl L s0 H0 fp pn) ifs (ko (g.with fun _ _ _ => False) ifs')) (he : ∀ L s0 H0 fp pn, Sd (g.with fun _ _ _ => False) (cxG X N scope cl L s0 H0 fp pn) elt elt')
 (hs : ∀ x, foldedSetIterable iter X.env x = pure x := by intro _; rfl)
 {use : Option (Value → Sem Unit)} {Qv : Value → Shared → Prop} {pins : List (Addr × Obj)} {s : Shared} {sg : L2.St} {H : Hp} {Q : VK} (I : L2.Inv X pins sg H s) (q : tE g (.comp k one nl tgs fv it' ifs' elt') sg H Q)
 (hfin : ∀ (ac C : Addr) (H' : Hp) (s4 : Shared), (∃ m, s4.heap.Ns C m) → Cv X pins H' C → (∀ h', Heap.SameBut C s4.heap h' → L2.Inv X pins sg H' { s4 with heap := h' }) → Q (.ref ac) H' → compPost (model X.prog X.w) X.A X.xe use Qv (.ref ac) C (.ok .next) s4) :
 wpAny (model X.prog X.w) X.A (comprehension (.ListComp elt [⟨target, iter, ifs, 0⟩] scope pos) scope X.env (firstIterPos [⟨target, iter, ifs, 0⟩] pos) (newList []) (firstAsync [⟨target, iter, ifs, 0⟩]) (firstIter [⟨target, iter, ifs, 0⟩] X.env) use) Qv X.xe s := by
 obtain ⟨rho, st, env, S, n, q⟩ := q
 obtain ⟨wi, hpi, hwi⟩ := hi
 generalize hB : my g tgs one (Co nl fv env) ifs' elt' = body
 have q : RQ g ((Ab g.tab g.call it' env st).bind fun d st => match Ei k st d with
  | some (xs, p) => (compLoop xs p st.length body xs (st ++ [.lst []])).bind fun _ st' => .ok (.loc st.length) st'
  | none => .bad) (ar g rho H Q) rho H := by
  rw [← hB]
  simp only [Ab] at q
  exact q
 refine wpAny_comprehension_free (use := use) rfl hs hclos hkind hnames ?_
 have hpi := hpi pins s sg H
  (fun J H1 => ∃ r1 st1 xs p, g.Keep rho H r1 H1 ∧ g.Sto r1 st1 H1 ∧ ItJ g J xs p r1 H1 ∧
   RQ g ((compLoop xs p st1.length body xs (st1 ++ [.lst []])).bind fun _ st' => .ok (.loc st1.length) st') (ar g rho H Q) r1 H1) I ?_
 · refine thn hpi fun v s1 h1 => thn h1 fun itv s2 h2 => ?_
   obtain ⟨it, fp, tn, J, H1, rfl, I2, T, st2, f2, r1, st1, xs, p, k1, S1, hJ, q1⟩ := h2
   obtain ⟨stf, hloop, q1⟩ : ∃ stf, compLoop xs p st1.length body xs (st1 ++ [.lst []]) = .ok () stf ∧ ar g rho H Q (.loc st1.length) stf := by
    revert q1
    cases e : compLoop xs p st1.length body xs (st1 ++ [.lst []]) with
    | ok u stf => exact fun q => ⟨stf, rfl, q⟩
    | exc c st2 => exact absurd e mz
    | bad => exact fun q => q.elim
   refine wpAny_newObj_type ?_
   have I3 := I2.Ce (its := []) (ys := []) (t' := s2.toks) .nil (Nat.zero_le _)
   have hn3 := I2.fresh
   generalize hs3 : ({ s2 with heap := s2.heap.push { cls := .type "list", data := .seq ([] : List Value).toArray } } : Shared) = s3
   have I3 : L2.Inv X pins sg (upd H1 s2.heap.objs.size (.lst [])) s3 := by rw [← hs3]; exact I3
   have hsz : s3.heap.objs.size = s2.heap.objs.size + 1 := by rw [← hs3]; exact Heap.size_push _ _
   have up3 : ∀ b o, s2.heap.get? b = some o → s3.heap.get? b = some o := fun b o e => by rw [← hs3]; exact Heap.get?_push_of_some _ e
   have hfp : ∀ b ∈ fp, Cv X pins (upd H1 s2.heap.objs.size (.lst [])) b ∧ b < s3.heap.objs.size := fun b hb => by
    obtain ⟨o, ho, _⟩ := T.obj _ _ st2 b hb
    have hlt := Heap.lt_size ho
    refine ⟨⟨?_, (f2 b hb).2⟩, by rw [hsz]; exact Nat.lt_succ_of_lt hlt⟩
    rw [Bf (Nat.ne_of_lt hlt)]
    exact (f2 b hb).1
   have k13 : g.Keep r1 H1 (r1 ++ [s2.heap.objs.size]) (upd H1 s2.heap.objs.size (.lst [])) := (S1.laid hn3 (o := .lst []) (c := .lst []) ⟨[], Cf, by simp [RepL]⟩).1
   have S3 : g.Sto (r1 ++ [s2.heap.objs.size]) (st1 ++ [.lst []]) (upd H1 s2.heap.objs.size (.lst [])) := (S1.laid hn3 (o := .lst []) (c := .lst []) ⟨[], Cf, by simp [RepL]⟩).2
   have acc_at : (r1 ++ [s2.heap.objs.size])[st1.length]? = some s2.heap.objs.size := by rw [← S1.len]; simp
   generalize hH3 : upd H1 s2.heap.objs.size (.lst []) = H3 at *
   generalize hac : s2.heap.objs.size = ac at *
   generalize hr3 : r1 ++ [ac] = r3 at *
   refine wpAny_newFunctionEnv hcell (by intro y hy; simp at hy) (fun h₁ hns₁ hsb₁ => ?_) hkind
   have hk1 : ∀ b o, s3.heap.get? b = some o → h₁.get? b = some o := fun b o e => hsb₁.extBut b o (Nat.ne_of_lt (Heap.lt_size e)) (Heap.get?_push_of_some _ e)
   have J0 := Rh (N := N) (nl := nl) (fv := fv) (tk := s3.toks + ([] : List (Str × Value)).length) hkind C hN hfv I3 hfp hns₁ hk1
   have n0 := rj (n.mono (k1.trans k13)) nl fv
   generalize hsg0 : (List.replicate nl none ++ fv.map fun k => (sg[k]?).join : L2.St) = sg0 at J0 n0
   have tn0 : tn 0 h₁ := T.keep _ _ _ st2 fun b _ o e => hk1 b o (up3 b o e)
   have bfp : ∀ {H' : Hp}, (∀ b ∈ fp, H' b = none) → ∀ b ∈ fp, Cv (cxG X N scope cl s3.heap.objs.size s3 H3 fp (X.pn ++ pins)) [] H' b := fun hn b hb => by
    obtain ⟨f, hlt⟩ := hfp b hb
    refine ⟨hn b hb, fun z => ?_, mx I3 f, .inl hb, fun y c h => f.2.2.2.2.1 y c (C.sub y c h), fun p hp => f.2.2.2.2.2 p (by rw [List.append_nil] at hp; exact hp)⟩
    have : s3.heap.objs.size < s3.heap.objs.size := by rw [z] at hlt; exact hlt
    exact Nat.lt_irrefl _ this
   have loop : codeAny (model X.prog X.w) X.A (.compLoop (.ListComp elt [⟨target, iter, ifs, 0⟩] scope pos) 0 (.ref it) (.ref ac) (Mw X scope cl s3.heap.objs.size))
    (compPost (model X.prog X.w) X.A X.xe use Qv (.ref ac) s3.heap.objs.size)
    { s3 with heap := h₁, toks := s3.toks + ([] : List (Str × Value)).length } := by
    refine aag (fun mm s' => ∃ i rho' st' H' sg', L2.Inv (cxG X N scope cl s3.heap.objs.size s3 H3 fp (X.pn ++ pins)) [] sg' H' s' ∧ tn i s'.heap ∧ (∀ b ∈ fp, H' b = none) ∧ g.Keep r3 H3 rho' H' ∧ g.Sto rho' st' H' ∧ g.Env rho' H' (Co nl fv env) sg' ∧ mm = xs.length - i ∧ i ≤ xs.length ∧
     compLoop xs p st1.length body (xs.drop i) st' = .ok () stf) ?_ xs.length ⟨0, r3, _, H3, sg0, J0, tn0, fun b hb => (hfp b hb).1.1, .refl _ _, S3, n0, by simp, Nat.zero_le _, hloop⟩
    rintro mm s' ⟨i, rho', st', H', sg', I', tn', fr', kk, S', n', rfl, hi, hl'⟩
    have hst : stays st' p xs = true := by
     cases z : stays st' p xs with
     | true => rfl
     | false =>
      exfalso
      cases e : xs.drop i with
      | nil => rw [e] at hl'; simp only [compLoop, z] at hl'; cases hl'
      | cons d t => rw [e] at hl'; simp only [compLoop, z] at hl'; cases hl'
    obtain ⟨jstop, jgo⟩ := hJ rho' st' H' (k13.trans kk) S' hst
    by_cases hlt : i < xs.length
    · obtain ⟨hgo, hy⟩ := jgo i xs[i] (List.getElem?_eq_getElem hlt)
      rw [List.drop_eq_getElem_cons hlt] at hl'
      simp only [compLoop, hst, if_true] at hl'
      refine thn (T.item (cxG X N scope cl s3.heap.objs.size s3 H3 fp (X.pn ++ pins)) rfl rfl rfl hc i [] s' sg' H' _ I' (bfp fr') tn' hgo) fun r s4 ⟨u, hr4, h4⟩ => ?_
      subst hr4
      refine thn h4 fun _ s5 ⟨x5, H5, I5, r5, y5, tn5, fr5⟩ => ?_
      obtain ⟨e5, rx5⟩ := hy x5 H5 y5
      have k5 : g.Keep rho' H' rho' H5 := Bp.keep e5 rho'
      have kk := kk.trans k5
      have S' := S'.same e5
      have n' := n'.mono k5
      have I5' := I5.pinned (bfp fr5) (T.obj _ _ tn5)
      obtain ⟨env', es⟩ : ∃ env', store tgs one xs[i] (Co nl fv env) = some env' := by
       cases es : store tgs one xs[i] (Co nl fv env) with
       | some env' => exact ⟨env', rfl⟩
       | none =>
        exfalso
        have : body xs[i] st' = .bad := by rw [← hB]; unfold my; rw [es]
        rw [this] at hl'; cases hl'
      have hbody : body xs[i] st' = (Cz g.tab g.call ifs' env' st').bind fun b st => if b then (Ab g.tab g.call elt' env' st).bind fun y st => .ok (some y) st else .ok none st := by
       rw [← hB]; unfold my; rw [es]
      rw [hbody] at hl'
      obtain ⟨hel, hhi⟩ := ri es htg
      refine wpAny_mono (hg s3.heap.objs.size s3 H3 fp (X.pn ++ pins) _ s5 sg' H5 x5 u (fun sg6 H6 => H6 = H5 ∧ g.Env rho' H6 env' sg6) I5' r5 (ir (g := g) es rx5 n' fun sg6 n6 => ⟨rfl, n6⟩)) (fun _ s6 h6 => ?_) (fun _ _ z => z.elim)
      obtain ⟨sg6, H6, I6, e6, n6⟩ := h6
      subst e6
      obtain ⟨b, st2, eb, hl'⟩ : ∃ b st2, Cz g.tab g.call ifs' env' st' = .ok b st2 ∧ (match (if b then (Ab g.tab g.call elt' env' st2).bind fun y st => .ok (some y) st else .ok none st2 : Res (Option D)) with
       | .ok (some y) st' => (match st'[st1.length]? with
        | some (.lst ys) => if ys.length < sizeLine then compLoop xs p st1.length body (xs.drop (i + 1)) (st'.set st1.length (.lst (ys ++ [y]))) else .bad
        | _ => .bad)
       | .ok none st' => compLoop xs p st1.length body (xs.drop (i + 1)) st'
       | _ => .bad) = Res.ok () stf := by
       cases eb : Cz g.tab g.call ifs' env' st' with
       | ok b st2 => rw [eb] at hl'; exact ⟨b, st2, rfl, hl'⟩
       | exc c st2 => rw [eb] at hl'; cases hl'
       | bad => rw [eb] at hl'; cases hl'
      refine wpAny_mono (ht s3.heap.objs.size s3 H3 fp (X.pn ++ pins) _ s6 sg6 H6 (fun b' H7 => b' = b ∧ ∃ rho7, g.Keep rho' H6 rho7 H7 ∧ g.Sto rho7 st2 H7) I6 ⟨rho', st', env', S', n6, ?_⟩) (fun ok s7 h7 => ?_) (fun _ _ z => z.elim)
      · show RQ (g.with fun _ _ _ => False) (Cz g.tab g.call ifs' env' st') _ rho' H6
        rw [eb]
        exact fun H7 rho7 k7 s7 => ⟨rfl, rho7, k7, s7⟩
      obtain ⟨H7, I7, e7, rho7, k7, S7⟩ := h7
      subst e7
      have n7 : g.Env rho7 H7 env' sg6 := n6.mono k7
      have done : ∀ (rho9 : List Addr) (st9 : Sto) (H9 : Hp) (s9 : Shared), L2.Inv (cxG X N scope cl s3.heap.objs.size s3 H3 fp (X.pn ++ pins)) ([] ++ ik fp s5.heap) sg6 H9 s9 → g.Keep rho7 H7 rho9 H9 → g.Sto rho9 st9 H9 → compLoop xs p st1.length body (xs.drop (i + 1)) st9 = .ok () stf →
       ∃ m, m < xs.length - i ∧ ∃ i rho' st' H' sg', L2.Inv (cxG X N scope cl s3.heap.objs.size s3 H3 fp (X.pn ++ pins)) [] sg' H' s9 ∧ tn i s9.heap ∧ (∀ b ∈ fp, H' b = none) ∧ g.Keep r3 H3 rho' H' ∧ g.Sto rho' st' H' ∧ g.Env rho' H' (Co nl fv env) sg' ∧ m = xs.length - i ∧ i ≤ xs.length ∧ compLoop xs p st1.length body (xs.drop i) st' = .ok () stf := by
       intro rho9 st9 H9 s9 I9 k9 S9 hl9
       refine ⟨xs.length - (i + 1), by omega, i + 1, rho9, st9, H9, sg6, I9.unpinned, T.keep _ _ _ tn5 fun b hb o e => (I9.pin (b, o) (List.mem_append_right _ (List.mem_append_right _ (Ik hb e)))).1, fun b hb => ?_, (kk.trans k7).trans k9, S9, Rj rfl hel hhi (n7.mono k9), rfl, hlt, hl9⟩
       obtain ⟨o, e, d⟩ := T.obj _ _ tn5 b hb
       exact (I9.pin (b, o) (List.mem_append_right _ (List.mem_append_right _ (Ik hb e)))).2.1
      cases ok with
      | false =>
       rw [if_neg Bool.false_ne_true]
       simp only [Bool.false_eq_true, if_false] at hl'
       exact done rho7 st2 H7 s7 I7 (.refl _ _) S7 hl'
      | true =>
       rw [if_pos rfl]
       simp only [if_true] at hl'
       obtain ⟨y, st4, ee, hl'⟩ : ∃ y st4, Ab g.tab g.call elt' env' st2 = .ok y st4 ∧ (match st4[st1.length]? with
        | some (.lst ys) => if ys.length < sizeLine then compLoop xs p st1.length body (xs.drop (i + 1)) (st4.set st1.length (.lst (ys ++ [y]))) else .bad
        | _ => .bad) = Res.ok () stf := by
        cases ee : Ab g.tab g.call elt' env' st2 with
        | ok y st4 => rw [ee] at hl'; exact ⟨y, st4, rfl, hl'⟩
        | exc c st4 => rw [ee] at hl'; cases hl'
        | bad => rw [ee] at hl'; cases hl'
       obtain ⟨ys, ey, hys, hl'⟩ : ∃ ys, st4[st1.length]? = some (.lst ys) ∧ ys.length < sizeLine ∧ compLoop xs p st1.length body (xs.drop (i + 1)) (st4.set st1.length (.lst (ys ++ [y]))) = .ok () stf := by
        split at hl'
        · rename_i ys ey
          split at hl'
          · rename_i hys; exact ⟨ys, ey, hys, hl'⟩
          · cases hl'
        · cases hl'
       refine wpAny_mono (he s3.heap.objs.size s3 H3 fp (X.pn ++ pins) _ s7 sg6 H7 (fun w H8 => ∃ rho8, g.Keep rho7 H7 rho8 H8 ∧ g.Sto rho8 st4 H8 ∧ g.Rep rho8 H8 y w) I7 ⟨rho7, st2, env', S7, n7, ?_⟩) (fun yv s8 h8 => ?_) (fun _ _ z => z.elim)
       · show RQ (g.with fun _ _ _ => False) (Ab g.tab g.call elt' env' st2) _ rho7 H7
         rw [ee]
         exact fun w H8 rho8 k8 s8 r8 => ⟨rho8, k8, s8, r8⟩
       obtain ⟨w, H8, I8, rw8, rho8, k8, S8, rp8⟩ := h8
       obtain ⟨a8, us, hr8, hH8, rl8⟩ := gi S8 ey
       rw [k8.at (k7.at (kk.at acc_at))] at hr8; cases hr8
       have hrep : g.RepL rho8 H8 (ys ++ [y]) (us ++ [w]) := rl8.append (by simp only [RepL]; exact ⟨w, [], rfl, rp8, rfl⟩)
       obtain ⟨k9, S9⟩ := S8.wrote (k8.at (k7.at (kk.at acc_at))) ey hH8 hrep
       refine wpAny_mono (Py (X := cxG X N scope cl s3.heap.objs.size s3 H3 fp (X.pn ++ pins)) _ s8 _ H8 (.ref ac) [w] (.ref ac) [yv] (fun _ H9 => H9 = upd H8 ac (.lst (us ++ [w]))) I8 rfl (.cons rw8 .nil) ⟨ac, us, w, rfl, rfl, hH8, by rw [← rl8.length]; exact hys, rfl⟩) (fun _ s9 h9 => ?_) (fun _ _ z => z.elim)
       obtain ⟨_, H9, I9, _, e9⟩ := h9
       subst e9
       exact done rho8 _ _ s9 I9 (k8.trans k9) S9 hl'
    · have ei : i = xs.length := by omega
      subst ei
      refine thn (T.done (cxG X N scope cl s3.heap.objs.size s3 H3 fp (X.pn ++ pins)) rfl rfl rfl hc xs.length [] s' sg' H' _ I' (bfp fr') tn' jstop) fun r s4 ⟨hr4, I4⟩ => ?_
      subst hr4
      rw [List.drop_eq_nil_of_le (Nat.le_refl _)] at hl'
      simp only [compLoop, hst, if_true] at hl'
      cases hl'
      obtain ⟨m4, hn4, _⟩ := I4.loc
      refine hfin ac s3.heap.objs.size H' s4 ⟨m4, hn4⟩ (I3.fpOk (Nat.le_refl _) I4.free) (fun h' sb => ?_) (q1 (.ref ac) H' rho' ((k1.trans k13).trans kk) S' (bh.mpr ⟨ac, kk.at acc_at, rfl⟩))
      have u4 : Un (frs X.stack) fp H3 H' s3.heap s4.heap := I4.base
      have hL : ∀ b o, s3.heap.get? b = some o → b ≠ s3.heap.objs.size := fun b o e => Nat.ne_of_lt (Heap.lt_size e)
      have fL : H' s3.heap.objs.size = none := I4.free
      refine I3.call' (s' := { s4 with heap := h' }) (ch := fp) I4.os ⟨fun b o e n hb hx => (sb.2 b (hL b o e)).trans (u4.keep b o e n hb hx), fun b o e n hb hx => ?_, u4.free, fun b o e hx => ?_, u4.tups, u4.frzs, u4.tbls⟩ (fun b o e => ?_) I4.bare fun b hb => ?_
      · obtain ⟨sl, e1⟩ := u4.slot b o e n hb hx
        exact ⟨sl, (sb.2 b (hL b o e)).trans e1⟩
      · obtain ⟨o', e1⟩ := u4.there b o e hx
        exact ⟨o', (sb.2 b (hL b o e)).trans e1⟩
      · refine (I4.hok b o e).stay (fun c u hc' g' => (sb.2 c ?_).trans g') (fun _ h => h) fun _ _ h => h
        intro z
        rcases hc' with rfl | hc'
        · rw [z, fL] at e; cases e
        · rw [z, fL] at hc'; cases hc'
      · obtain ⟨f, _⟩ := hfp b hb
        exact ⟨f.2.2.2.1, f.2.1, f.2.2.2.2.1, f.2.2.2.2.2⟩
   exact codeAny_compStart_list loop (T.self _ 0 _ _ _ tn0 loop)
 · refine hwi rho st env sg H _ S n ?_
   revert q
   cases Ab g.tab g.call it' env st with
   | bad => exact fun q => q
   | exc c st1 => exact fun q => q
   | ok d st1 =>
    simp only [Bj]
    intro q
    cases ei : Ei k st1 d with
    | none => rw [ei] at q; exact q.elim
    | some xp =>
     obtain ⟨xs, p⟩ := xp
     rw [ei] at q
     exact ⟨xs, p, ei, fun H1 r1 J k1 s1 hJ => ⟨r1, st1, xs, p, k1, s1, hJ, RQ.mono k1 q fun _ _ z => z⟩⟩
theorem Iu (hK : X.K = g.K) (hc : X.calm = true) (hkind : scope.kind = .function) (hcell : ∀ y ∈ scope.names, y.2 ≠ .cell)
 (hnames : ∀ y ∈ scope.names, y.2 = .local → scope.names.lookup y.1 = some .local) (hclos : closureFor scope X.env = pure cl) (C : Clos X scope cl) (hN : N.length = nl + fv.length)
 (hfv : ∀ j k, fv[j]? = some k → ∃ x c, N[nl + j]? = some x ∧ X.N[k]? = some x ∧ cl.lookup x = some c ∧ (X.env.scope.names.lookup x = some .cell ∨ X.env.scope.names.lookup x = some .free) ∧ ((relabel scope X.env).names.lookup x = some .cell ∨ (relabel scope X.env).names.lookup x = some .free))
 (htg : ∀ i ∈ tgs, i < nl) (hi : SdI g X target iter k it') (hg : ∀ L s0 H0 fp pn, PG (cxG X N scope cl L s0 H0 fp pn) target (tg g.K tgs one))
 (ht : ∀ L s0 H0 fp pn, PTs (cxG X N scope cl L s0 H0 fp pn) ifs (ko (g.with fun _ _ _ => False) ifs')) (he : ∀ L s0 H0 fp pn, Sd (g.with fun _ _ _ => False) (cxG X N scope cl L s0 H0 fp pn) elt elt')
 (hs : ∀ x, foldedSetIterable iter X.env x = pure x := by intro _; rfl) :
 Sd g X (.ListComp elt [⟨target, iter, ifs, 0⟩] scope pos) (.comp k one nl tgs fv it' ifs' elt') := by
 intro pins s sg H Q I q
 rw [eval_ListComp]
 exact aaj hK hc hkind hcell hnames hclos C hN hfv htg hi hg ht he hs I q fun ac C H' s4 ⟨m, hn⟩ _ hI hq => ⟨m, hn, fun h' sb => ⟨.ref ac, H', hI h' sb, rfl, hq⟩⟩
variable {g : G} {X : Cx} {pos : Pos} {F : Nat}
def Its (z : Str) : It := ⟨fun i _ => i < z.cps.size, fun i H x H' => H' = H ∧ ∃ c, z.cps[i]? = some c ∧ x = .str ⟨#[c]⟩, fun i _ => z.cps.size ≤ i⟩
theorem aak {P : Program} {w : World} {K : W.Frag} {tg : Expr} (it : Addr) (z : Str) (t : Tok) (nm : String) (hnm : ["enumerate", "zip", "dict_itemiterator", "dict_reverseitemiterator", "odict_iterator", "itertools.zip_longest", "itertools.pairwise"].contains nm = false)
 (W : ∀ A' : Around, A'.handled = none → Walks P w A' it [it] [it] z.cps.size (SignAt z) (fun i h => h.IsStrIter it nm z t i))
 (hself : ∀ (A : Around) (i : Nat) (s : Shared) (Q : Value → Shared → Prop) (E : Value → Shared → Prop), s.heap.IsStrIter it nm z t i → Q (.ref it) s → wpAny (model P w) A (pyIter (.ref it)) Q E s) : Turn P w K tg (Its z) [it] it (fun i h => i ≤ z.cps.size ∧ h.IsStrIter it nm z t i) where
 mem := by simp
 obj := fun i h st b hb => by
  have e : b = it := by simpa using hb
  subst e
  obtain ⟨_, o, e, c, d⟩ := st
  exact ⟨o, e, fun v z => by rw [d] at z; cases z⟩
 keep := fun i h h' st k => let ⟨hi, o, ho, r⟩ := st; ⟨hi, o, k it (by simp) o ho, r⟩
 item := by
  intro X hP hw hK hc i pins s sg H E I hf st hg
  subst hP hw hK
  have hg : i < z.cps.size := hg
  obtain ⟨f0, f1, f2, f3, f4, f5⟩ := hf it (by simp)
  refine (W X.A (I.ok.hd hc)).item i s _ _ hg st.2 fun v h' tk hv st' kk => ?_
  obtain ⟨c, u, hcv, rfl⟩ := hv
  have I1 : Inv X pins sg H { s with heap := h', toks := tk } := I.turned (fun b o hb e => kk b o (by simpa using hb) e) f0 f1 f3 f4 f5
  obtain ⟨o, e, cc, d⟩ := id st'
  exact ⟨_, rfl, Jz (s := { s with heap := h', toks := tk }) (n := nm) e cc d hnm ⟨.str ⟨#[c]⟩, H, I1, ⟨u, rfl⟩, ⟨rfl, c, hcv, rfl⟩, ⟨hg, st'⟩, fun b hb => (hf b hb).1⟩⟩
 done := by
  intro X hP hw hK hc i pins s sg H E I hf st hg
  subst hP hw hK
  have hg : z.cps.size ≤ i := hg
  have hi : i = z.cps.size := Nat.le_antisymm st.1 hg
  subst hi
  obtain ⟨f0, f1, f2, f3, f4, f5⟩ := hf it (by simp)
  exact (W X.A (I.ok.hd hc)).done s _ _ st.2 fun h' tk kk => ⟨rfl, I.turned (fun b o hb e => kk b o (by simpa using hb) e) f0 f1 f3 f4 f5⟩
 self := fun A i s Q E st h => hself A i s Q E st.2 h
def aal (tl : TE) : TI := fun sg H R => tl sg H fun x H1 => ∃ z, x = .str z ∧ R (Its z) H1
theorem aam {tg l : Expr} {tl : TE} (hl : PE X l tl) : PI X tg l (aal tl) := by
 intro pins s sg H R I h
 refine thn (hl pins s sg H _ I h) fun v s1 ⟨x, H1, I1, r1, q1⟩ => ?_
 obtain ⟨z, rfl, q⟩ := q1
 obtain ⟨t, rfl⟩ := (show ∃ t, v = Value.str z t from r1)
 have fin : ∀ (o : Obj) (nm : String), o.cls = .type nm → o.data = .fields #[.str z t, .int 0 0] → ["enumerate", "zip", "dict_itemiterator", "dict_reverseitemiterator", "odict_iterator", "itertools.zip_longest", "itertools.pairwise"].contains nm = false → o.isFreed = false →
  (∀ A' : Around, A'.handled = none → Walks X.prog X.w A' s1.heap.objs.size [s1.heap.objs.size] [s1.heap.objs.size] z.cps.size (SignAt z) (fun i h => h.IsStrIter s1.heap.objs.size nm z t i)) →
  (∀ (A : Around) (i : Nat) (s : Shared) (Q : Value → Shared → Prop) (E : Value → Shared → Prop), s.heap.IsStrIter s1.heap.objs.size nm z t i → Q (.ref s1.heap.objs.size) s → wpAny (model X.prog X.w) A (pyIter (.ref s1.heap.objs.size)) Q E s) →
  PIE X pins sg tg R (.ref s1.heap.objs.size) { s1 with heap := s1.heap.push o } := by
  intro o nm hc hd hnm hfr W hself
  refine ⟨s1.heap.objs.size, [s1.heap.objs.size], _, Its z, H1, rfl, I1.kept (t' := s1.toks) fun b o e => Heap.get?_push_of_some _ e, aak _ z t nm hnm W hself, ⟨Nat.zero_le _, o, Heap.get?_push_size _ hfr, hc, hd⟩, fun b hb => ?_, q⟩
  have e : b = s1.heap.objs.size := by simpa using hb
  subst e
  exact I1.fpOk (Nat.le_refl _) (I1.hok.fresh (Nat.le_refl _))
 cases ha : z.cps.all (· < 128)
 · exact wpAny_pyIter_wide ha (fin _ "str_iterator" rfl rfl (by decide) rfl (fun A' hA => Walks.strWide hA _ z t) fun A i s Q E st h => wpAny_pyIter_striter_wide st h)
 · exact wpAny_pyIter_ascii ha (fin _ "str_ascii_iterator" rfl rfl (by decide) rfl (fun A' hA => Walks.strAscii hA _ z t) fun A i s Q E st h => wpAny_pyIter_striter_ascii st h)
theorem aan {target iter : Expr} {it' : E} (h : Sd g X iter it') : SdI g X target iter 3 it' := by
 refine ⟨_, aam h, fun rho st env sg H R s n q => ?_⟩
 refine ⟨rho, st, env, s, n, ?_⟩
 revert q
 cases Ab g.tab g.call it' env st with
 | bad => exact fun q => q
 | exc c st1 => exact fun q => q
 | ok d st1 =>
  rintro ⟨xs, p, e, q⟩ v H1 r1 k1 s1 rv
  cases d with
  | str z =>
   simp only [Ei] at e
   split at e
   · cases e
     refine ⟨z, Bs.mp rv, q H1 r1 _ k1 s1 ?_⟩
     intro rho st H kk s hst
     refine ⟨by show z.cps.size ≤ _; simp, fun i d hd => ?_⟩
     rw [List.getElem?_map] at hd
     cases ec : z.cps.toList[i]? with
     | none => rw [ec] at hd; cases hd
     | some c =>
      rw [ec] at hd; cases hd
      have hi : i < z.cps.size := by simpa using (List.getElem?_eq_some_iff.mp ec).1
      refine ⟨hi, fun x H' y => Mx y.1 ?_⟩
      obtain ⟨_, c2, e2, rfl⟩ := y
      have : c2 = c := by
       have e3 : z.cps.toList[i]? = some c2 := by simpa using e2
       rw [ec] at e3; cases e3; rfl
      rw [this]
      exact Bs.mpr rfl
   · cases e
  | _ => cases e
end DD
namespace DD
open PySem PySem.Spec L2
open PyProof.Rows hiding St
variable {g : G} {X : Cx} {a b c : Expr} {a' b' c' : E} {pos : Pos} {rest es : List Expr} {es' : Es} {F : Nat}
end DD
namespace DD
open PySem PySem.Spec L2
variable {g : G} {X : Cx} {pos apos cpos : Pos} {F : Nat} {a b c : Expr} {a' b' c' : E}
theorem Ko : ∀ {kvs : List (D × D)} {ws : List (Key × V)}, ba g.K rho H kvs ws → kvs.length = ws.length
 | [], ws, h => by simp only [ba] at h; subst h; rfl
 | (x, d) :: r, ws, h => by
  simp only [ba] at h
  obtain ⟨k, v, t, rfl, _, _, q⟩ := h
  simp [Ko q]
theorem Rk {rho : List Addr} {H : Hp} {a : D} {k : Key} (ha : kD a = some k) : ∀ {kvs : List (D × D)} {ws : List (Key × V)}, ba g.K rho H kvs ws → (kvs.any fun p => decide (p.1 = a)) = ws.any fun p => decide (p.1 = k)
 | [], ws, h => by simp only [ba] at h; subst h; rfl
 | (x, d) :: r, ws, h => by
  simp only [ba] at h
  obtain ⟨k', v, t, rfl, hk, _, q⟩ := h
  simp only [List.any_cons, Rk ha q]
  congr 1
  by_cases e : x = a
  · subst e; rw [ha] at hk; cases hk; simp
  · have : k' ≠ k := fun z => e (Kk (by rw [hk, z]) ha)
    simp [e, this]
theorem Rl {rho : List Addr} {H : Hp} {a y : D} {k : Key} {v : V} (ha : kD a = some k) (ry : g.Rep rho H y v) : ∀ {kvs : List (D × D)} {ws : List (Key × V)}, ba g.K rho H kvs ws → ba g.K rho H (kvs.map fun p => if p.1 = a then (p.1, y) else p) (ws.map fun p => if p.1 = k then (p.1, v) else p)
 | [], ws, h => by simp only [ba] at h; subst h; simp [ba]
 | (x, d) :: r, ws, h => by
  simp only [ba] at h
  obtain ⟨k', v', t, rfl, hk, rd, q⟩ := h
  have ih := Rl ha ry q
  by_cases e : x = a
  · subst e; rw [ha] at hk; cases hk
    simp only [List.map_cons, if_true, ba]
    exact ⟨k, v, _, rfl, ha, ry, ih⟩
  · have ne : k' ≠ k := fun z => e (Kk (by rw [hk, z]) ha)
    simp only [List.map_cons, if_neg e, if_neg ne, ba]
    exact ⟨k', v', _, rfl, hk, rd, ih⟩
theorem Rm {rho : List Addr} {H : Hp} {a y : D} {k : Key} {v : V} (ha : kD a = some k) (ry : g.Rep rho H y v) : ∀ {kvs : List (D × D)} {ws : List (Key × V)}, ba g.K rho H kvs ws → ba g.K rho H (kvs ++ [(a, y)]) (ws ++ [(k, v)])
 | [], ws, h => by simp only [ba] at h; subst h; simp only [List.nil_append, ba]; exact ⟨k, v, [], rfl, ha, ry, rfl⟩
 | (x, d) :: r, ws, h => by
  simp only [ba] at h
  obtain ⟨k', v', t, rfl, hk, rd, q⟩ := h
  simp only [List.cons_append, ba]
  exact ⟨k', v', _, rfl, hk, rd, Rm ha ry q⟩
theorem rn {rho : List Addr} {H : Hp} {a y : D} {k : Key} {v : V} (ha : kD a = some k) (ry : g.Rep rho H y v) {kvs : List (D × D)} {ws : List (Key × V)} (h : ba g.K rho H kvs ws) : ba g.K rho H (Fh kvs a y) (putK ws k v) := by
 unfold Fh putK
 rw [Rk ha h]
 split
 · exact Rl ha ry h
 · exact Rm ha ry h
theorem Rn : ∀ {more : List (D × D)} {ms : List (Key × V)} {kvs : List (D × D)} {ws : List (Key × V)}, ba g.K rho H more ms → ba g.K rho H kvs ws → ba g.K rho H (Mg kvs more) (Im ws ms)
 | [], ms, kvs, ws, h, q => by simp only [ba] at h; subst h; exact q
 | (x, d) :: r, ms, kvs, ws, h, q => by
  simp only [ba] at h
  obtain ⟨k, v, t, rfl, hk, rd, h2⟩ := h
  show ba g.K rho H (Mg (Fh kvs x d) r) (Im (putK ws k v) t)
  exact Rn h2 (rn hk rd q)
theorem ro (s : g.Sto rho st H) (hr : rho[n]? = some p) (he : st[n]? = some (.dct kvs)) (hH : H p = some (.dK ws)) (h2 : ba g.K rho H kvs2 ws2) :
 g.Keep rho H rho (upd H p (.dK ws2)) ∧ g.Sto rho (st.set n (.dct kvs2)) (upd H p (.dK ws2)) := s.wroteC hr he rfl hH ⟨fun _ => nofun, fun _ _ => nofun⟩ fun H3 eH kk => ⟨ws2, eH, h2.mono kk⟩
theorem aao {pins : List (Addr × Obj)} {sg : L2.St} {H : Hp} {s : Shared} {A : Around} {E : Value → Shared → Prop} {p : Addr} {kvs : List (Key × V)} {k : Key} {v : V} {u r : Value} {Q : Unit → Shared → Prop} (I : Inv X pins sg H s) (e : H p = some (.dK kvs)) (l : kvs.length < sizeLine) (ry : RelV (kV k) u) (rv : RelV v r)
 (h : ∀ s', Inv X pins sg (upd H p (.dK (putK kvs k v))) s' → Q () s') : wpAny (model X.prog X.w) A (dictSet p u r) Q E s := by
 obtain ⟨z, hd, vs, rel, dd⟩ := Me I.hok e
 have hz : vs.length ≤ sizeLine := by rw [← rel.length]; exact z
 have hl : (putK kvs k v).length ≤ sizeLine := by have := qa kvs k v; omega
 refine wpAny_dictSet_pairs (hsz := hz) (ke ry) dd fun h' dd' hs => h _ ?_
 have he : ∃ q, h'.get? p = some q := let ⟨q, _, _, hq, _⟩ := dd'; ⟨q, hq⟩
 exact Qc I (by rw [e]; exact True.intro) hs he (qd hl hd (rel.put k rv) dd')
theorem Ro (hm : m = .get ∨ m = .upd) (h : rdy m st d = true) : ∃ n kvs, d = .loc n ∧ Cw st n = some kvs := by
 cases d with
 | loc n =>
  have h : (Cw st n).isSome = true := by rcases hm with rfl | rfl <;> exact h
  cases e : Cw st n with
  | none => rw [e] at h; cases h
  | some kvs => exact ⟨n, kvs, rfl, e⟩
 | _ => rcases hm with rfl | rfl <;> cases h
theorem Rp (hu : X.A.units + 64 < cLine) (ho : Sd g X o o') (he : Sd g X e e') (m : M1 X o "get" apos e cpos) : Sd g X (.Call (.Attribute o "get" apos) [e] [] cpos) (.mt .get o' (.cons e' .nil)) :=
 bc (yk (by omega) ho he m) fun sg H Q q => by
  obtain ⟨rho, st, env, s, n, q⟩ := q
  simp only [Ab, Av, Bj, bind_assoc] at q
  refine step s n q fun d st1 x H1 r1 k1 s1 n1 rp q1 => ?_
  split at q1
  · rename_i hl
    obtain ⟨j, kvs, rfl, ed⟩ := Ro (.inl rfl) hl
    obtain ⟨p, ws, hr, _, hH, kv⟩ := iq s1 ed
    obtain ⟨p2, hr2, rfl⟩ := bh.mp rp
    rw [hr] at hr2; cases hr2
    refine ⟨p, rfl, .inl ⟨ws, .inl hH⟩, step s1 n1 q1 fun y st2 w H2 r2 k2 s2 n2 ry q2 => ?_⟩
    simp only [mtD] at q2
    split at q2
    · rename_i kvs2 ed2
      split at q2
      · rename_i hk
        obtain ⟨k, ek⟩ := Mn hk
        obtain ⟨p3, ws2, hr3, _, hH2, kv2⟩ := iq s2 ed2
        rw [k2.at hr] at hr3; cases hr3
        cases Mo ry ek
        refine ⟨Cr ws2 k, Jj.k hH2, ?_⟩
        obtain ⟨l1, l2⟩ := Qm ek kv2
        have q2 : ar g rho H Q ((bx kvs2 y).getD .non) st2 := q2
        cases z : bx kvs2 y with
        | none => rw [z] at q2; rw [l2 z]; exact q2 _ H2 r2 (k1.trans k2) s2 (Dc.mpr rfl)
        | some d => rw [z] at q2; obtain ⟨v, e1, rv⟩ := l1 d z; rw [e1]; exact q2 _ H2 r2 (k1.trans k2) s2 rv
      · exact q2.elim
    · exact q2.elim
  · exact q1.elim
def aap : V → List V → Hp → VK → Prop := fun x vs H Q => ∃ p o kvs more, x = .ref p ∧ vs = [.ref o] ∧ p ≠ o ∧ H p = some (.dK kvs) ∧ H o = some (.dK more) ∧ kvs.length + more.length ≤ sizeLine ∧ Q .non (upd H p (.dK (Im kvs more)))
theorem aaq : MtR X "dict.update" aap := by
 intro pins s sg H x vs v us Q I rx rv h
 obtain ⟨p, o, kvs, more, rfl, rfl, hne, hp, ho, hz, q⟩ := h
 cases rx
 obtain ⟨u, rfl, ru⟩ := rv.one
 cases ru
 obtain ⟨z, hd, ws, rel, dd⟩ := Me I.hok hp
 obtain ⟨z2, hd2, ms, rel2, dd2⟩ := Me I.hok ho
 refine call_meetsIn PySem.F.slot_dict_update dd.typeIs PySem.F.entry_dict_update (PySem.F.args_dict_update_2 _ _) (meets_dict_update (Cn X.prog X.w) p o hne hd2) ⟨ws, ms, dd, dd2, by rw [← rel.length, ← rel2.length]; exact hz, fun h' dd' _ hs => ⟨.non, _, ?_, rfl, q⟩⟩
 have he : ∃ q, h'.get? p = some q := let ⟨q, _, _, hq, _⟩ := dd'; ⟨q, hq⟩
 exact Qc (t' := s.toks) I (by rw [hp]; exact True.intro) hs he (qd (Nat.le_trans (Qd more kvs) hz) hd (rel2.merge rel) dd')
theorem rq (ho : Sd g X o o') (hv : Sd g X v v') (hbase : attributeBase o "update" X.env (eval o X.env) = eval o X.env := by rfl)
 (hfew : ((backTo cpos (starEach [v] X.env)).all (fun x => !x.1) && (backToKw cpos (keywordEach [] X.env)).all (fun x => x.1.isSome) && decide ([v].length + ([] : List Keyword).length + (if ([] : List Keyword).isEmpty then 0 else 1) < 30)) = true := by rfl)
 (hline : (apos.endLine == cpos.line) = true := by rfl) (hs : starEach [v] X.env = (false, eval v X.env) :: starEach [] X.env := by rfl) : Sd g X (.Call (.Attribute o "update" apos) [v] [] cpos) (.mt .upd o' (.cons v' .nil)) :=
 bc (Px PySem.F.plainAttrs_dict PySem.F.slot_dict_update PySem.F.type_dict_update aaq ho (aa hv ae hs) hbase hfew hline hs rfl) fun sg H Q q => by
  obtain ⟨rho, st, env, s, n, q⟩ := q
  simp only [Ab] at q
  refine step s n q fun d st1 x H1 r1 k1 s1 n1 rp q1 => ?_
  split at q1
  · rename_i hl
    obtain ⟨j, kvs, rfl, ed⟩ := Ro (.inr rfl) hl
    obtain ⟨p, ws, hr, _, hH, kv⟩ := iq s1 ed
    obtain ⟨p2, hr2, rfl⟩ := bh.mp rp
    rw [hr] at hr2; cases hr2
    refine ⟨.inr (.inr (.inl ⟨rfl, .inl ⟨ws, hH⟩⟩)), Ej s1 n1 q1 fun ds st2 vs H2 r2 k2 s2 n2 rps q2 => ?_⟩
    match ds, q2 with
    | [.loc m], q2 =>
     obtain ⟨w, rfl, rw1⟩ := Hf rps
     simp only [mtD] at q2
     split at q2
     · rename_i kvs2 more e1 e2
       split at q2
       · rename_i hz
         obtain ⟨p3, ws2, hr3, hc3, hH2, kv2⟩ := iq s2 e1
         rw [k2.at hr] at hr3; cases hr3
         obtain ⟨p4, ms, hr4, hc4, hH4, kv4⟩ := iq s2 e2
         obtain ⟨p5, hr5, rfl⟩ := bh.mp rw1
         rw [hr4] at hr5; cases hr5
         have hne : p ≠ p4 := fun z => hz.1 (s2.nd j m p _ _ (k2.at hr) (by rw [z]; exact hr4) hc3 hc4 rfl rfl)
         obtain ⟨k3, s3⟩ := ro s2 (k2.at hr) hc3 hH2 (Rn kv4 kv2)
         exact ⟨p, p4, ws2, ms, rfl, rfl, hne, hH2, hH4, by rw [← Ko kv2, ← Ko kv4]; exact hz.2, (show ar g rho H Q .non _ from q2) _ _ r2 ((k1.trans k2).trans k3) s3 (Dc.mpr rfl)⟩
       · exact q2.elim
     · exact q2.elim
    | [], q2 => exact q2.elim
    | [.non], q2 => exact q2.elim
    | [.bl _], q2 => exact q2.elim
    | [.int _], q2 => exact q2.elim
    | [.str _], q2 => exact q2.elim
    | [.tup _], q2 => exact q2.elim
    | _ :: _ :: _, q2 => exact (show False by revert q2; rename_i a b c; cases a <;> exact fun q => q.elim).elim
  · exact q1.elim
end DD
namespace DD
open PySem PySem.Spec L2
open PyProof.Rows hiding St RelV
variable {g : G} {X : Cx} {pos : Pos} {F : Nat}
def Na (g : G) (tg : List Nat) (one : Bool) (env0 : Env) (ifs : Es) (kx vx : E) (d : D) (st : Sto) : Res (Option (D × D)) := match store tg one d env0 with
 | some env' => (Cz g.tab g.call ifs env' st).bind fun b st => if b then (Ab g.tab g.call kx env' st).bind fun k st => (Ab g.tab g.call vx env' st).bind fun y st => .ok (some (k, y)) st else .ok none st
 | none => .bad
theorem Nb : ∀ {xs : List D} {st : Sto}, Bu all p n0 body xs st ≠ .exc c st'
 | [], st => by
  simp only [Bu]
  split <;> (intro h; cases h)
 | d :: r, st => by
  simp only [Bu]
  split
  · split
    · split
      · split
        · exact Nb
        · intro h; cases h
      · intro h; cases h
    · exact Nb
    · intro h; cases h
  · intro h; cases h
theorem aar (I : Nat → Shared → Prop)
 (turn : ∀ n s, I n s → wpAny (model prog w) A (pyNext it) (fun r s₁ => match r with
  | none => R (.ok .next) s₁
  | some v => wpAny (model prog w) A (letOwnedTupleGo target it v) (fun _ s₁ => wpAny (model prog w) A (assign target env v) (fun _ s₂ =>
   wpAny (model prog w) A (forIn ifs true fun c r => if r = true then do let ok ← isTrue c env (eval c env); pure (ForInStep.yield ok) else pure (ForInStep.yield r)) (fun ok s₃ =>
    if ok = true then wpAny (model prog w) A (eval kx env) (fun kv s₄ => wpAny (model prog w) A (eval vx env) (fun vv s₅ =>
     wpAny (model prog w) A (dictSet dd kv vv) (fun _ s₆ => ∃ m, m < n ∧ I m s₆) (notedBy (model prog w) A env fun e s' => R (.error e) s') s₅) (notedBy (model prog w) A env fun e s' => R (.error e) s') s₄) (notedBy (model prog w) A env fun e s' => R (.error e) s') s₃
    else ∃ m, m < n ∧ I m s₃) (notedBy (model prog w) A env fun e s' => R (.error e) s') s₂) (notedBy (model prog w) A env fun e s' => R (.error e) s') s₁) (notedBy (model prog w) A env fun e s' => R (.error e) s') s₁) (notedBy (model prog w) A env fun e s' => R (.error e) s') s)
 (n : Nat) (h : I n s) : codeAny (model prog w) A (.compLoop (.DictComp kx vx [⟨target, iter, ifs, 0⟩] scope pos) 0 it (.ref dd) env) R s := by
 refine codeAny_loop rfl I (fun n s hI => ?_) n h
 show wpAny _ A ((compTurn (.DictComp kx vx [⟨target, iter, ifs, 0⟩] scope pos) 0 it (.ref dd) env).onRaise (fun x => do noteFrame x env; theTreesLotGoes x)) _ _ s
 refine wpAny_noted ?_
 rw [compTurn_dict]
 refine wpAny_bind (wpAny_standAt (wpAny_bind (wpAny_mono (turn n s hI) (fun r s₁ h₁ => ?_) fun _ _ h' => h')))
 cases r with
 | none => exact wpAny_pure h₁
 | some v =>
  refine wpAny_bind (wpAny_mono h₁ (fun _ s₁ h₁ => ?_) fun _ _ h' => h')
  refine wpAny_bind (wpAny_mono h₁ (fun _ s₂ h₂ => wpAny_bind (wpAny_mono h₂ (fun ok s₃ h₃ => ?_) fun _ _ h' => h')) fun _ _ h' => h')
  cases ok with
  | false => exact wpAny_pure ⟨rfl, h₃⟩
  | true =>
   exact wpAny_bind (wpAny_bind (wpAny_mono h₃ (fun kv s₄ h₄ => wpAny_bind (wpAny_holding (wpAny_mono h₄ (fun vv s₅ h₅ => wpAny_bind (wpAny_standAt (wpAny_holding (wpAny_mono h₅ (fun _ s₆ h₆ => wpAny_pure ⟨rfl, h₆⟩) fun _ _ h' => h')))) fun _ _ h' => h'))) fun _ _ h' => h'))
theorem jo {kx vx iter target : Expr} {ifs : List Expr} {N : List Str} {nl : Nat} {fv tgs : List Nat} {one : Bool} {k : Nat} {scope : Scope} {cl : List (Str × Addr)} {it' kx' vx' : E} {ifs' : Es} (hK : X.K = g.K) (hc : X.calm = true) (hkind : scope.kind = .function) (hcell : ∀ y ∈ scope.names, y.2 ≠ .cell)
 (hnames : ∀ y ∈ scope.names, y.2 = .local → scope.names.lookup y.1 = some .local) (hclos : closureFor scope X.env = pure cl) (C : Clos X scope cl) (hN : N.length = nl + fv.length)
 (hfv : ∀ j k, fv[j]? = some k → ∃ x c, N[nl + j]? = some x ∧ X.N[k]? = some x ∧ cl.lookup x = some c ∧ (X.env.scope.names.lookup x = some .cell ∨ X.env.scope.names.lookup x = some .free) ∧ ((relabel scope X.env).names.lookup x = some .cell ∨ (relabel scope X.env).names.lookup x = some .free))
 (htg : ∀ i ∈ tgs, i < nl) (hi : SdI g X target iter k it') (hg : ∀ L s0 H0 fp pn, PG (cxG X N scope cl L s0 H0 fp pn) target (tg g.K tgs one))
 (ht : ∀ L s0 H0 fp pn, PTs (cxG X N scope cl L s0 H0 fp pn) ifs (ko (g.with fun _ _ _ => False) ifs')) (hkx : ∀ L s0 H0 fp pn, Sd (g.with fun _ _ _ => False) (cxG X N scope cl L s0 H0 fp pn) kx kx') (hvx : ∀ L s0 H0 fp pn, Sd (g.with fun _ _ _ => False) (cxG X N scope cl L s0 H0 fp pn) vx vx')
 (hs : ∀ x, foldedSetIterable iter X.env x = pure x := by intro _; rfl) :
 Sd g X (.DictComp kx vx [⟨target, iter, ifs, 0⟩] scope pos) (.dcomp k one nl tgs fv it' ifs' kx' vx') := by
 intro pins s sg H Q I q
 obtain ⟨rho, st, env, S, n, q⟩ := q
 obtain ⟨wi, hpi, hwi⟩ := hi
 generalize hB : Na g tgs one (Co nl fv env) ifs' kx' vx' = body
 have q : RQ g ((Ab g.tab g.call it' env st).bind fun d st => match Ei k st d with
  | some (xs, p) => (Bu xs p st.length body xs (st ++ [.dct []])).bind fun _ st' => .ok (.loc st.length) st'
  | none => .bad) (ar g rho H Q) rho H := by
  rw [← hB]
  simp only [Ab] at q
  exact q
 rw [arm_eval_DictComp]
 refine wpAny_comprehension_free (use := none) rfl hs hclos hkind hnames ?_
 have hpi := hpi pins s sg H
  (fun J H1 => ∃ r1 st1 xs p, g.Keep rho H r1 H1 ∧ g.Sto r1 st1 H1 ∧ ItJ g J xs p r1 H1 ∧
   RQ g ((Bu xs p st1.length body xs (st1 ++ [.dct []])).bind fun _ st' => .ok (.loc st1.length) st') (ar g rho H Q) r1 H1) I ?_
 · refine thn hpi fun v s1 h1 => thn h1 fun itv s2 h2 => ?_
   obtain ⟨it, fp, tn, J, H1, rfl, I2, T, st2, f2, r1, st1, xs, p, k1, S1, hJ, q1⟩ := h2
   obtain ⟨stf, hloop, q1⟩ : ∃ stf, Bu xs p st1.length body xs (st1 ++ [.dct []]) = .ok () stf ∧ ar g rho H Q (.loc st1.length) stf := by
    revert q1
    cases e : Bu xs p st1.length body xs (st1 ++ [.dct []]) with
    | ok u stf => exact fun q => ⟨stf, rfl, q⟩
    | exc c st2 => exact absurd e Nb
    | bad => exact fun q => q.elim
   refine wpAny_newObj_type ?_
   have I3 := I2.laid (a := s2.heap.objs.size) (o := .dK []) (h' := s2.heap.push { cls := .type "dict", data := .dict #[] }) (t' := s2.toks) (fun _ _ q => Heap.get?_push_of_some _ q) (Nat.le_refl _) (yi s2.heap I2.big)
   have hn3 := I2.fresh
   generalize hs3 : ({ s2 with heap := s2.heap.push { cls := .type "dict", data := .dict #[] } } : Shared) = s3
   have I3 : L2.Inv X pins sg (upd H1 s2.heap.objs.size (.dK [])) s3 := by rw [← hs3]; exact I3
   have hsz : s3.heap.objs.size = s2.heap.objs.size + 1 := by rw [← hs3]; exact Heap.size_push _ _
   have up3 : ∀ b o, s2.heap.get? b = some o → s3.heap.get? b = some o := fun b o e => by rw [← hs3]; exact Heap.get?_push_of_some _ e
   have hfp : ∀ b ∈ fp, Cv X pins (upd H1 s2.heap.objs.size (.dK [])) b ∧ b < s3.heap.objs.size := fun b hb => by
    obtain ⟨o, ho, _⟩ := T.obj _ _ st2 b hb
    have hlt := Heap.lt_size ho
    refine ⟨⟨?_, (f2 b hb).2⟩, by rw [hsz]; exact Nat.lt_succ_of_lt hlt⟩
    rw [Bf (Nat.ne_of_lt hlt)]
    exact (f2 b hb).1
   have k13 : g.Keep r1 H1 (r1 ++ [s2.heap.objs.size]) (upd H1 s2.heap.objs.size (.dK [])) := (S1.laid hn3 (o := .dK []) (c := .dct []) ⟨[], Cf, by simp [ba]⟩).1
   have S3 : g.Sto (r1 ++ [s2.heap.objs.size]) (st1 ++ [.dct []]) (upd H1 s2.heap.objs.size (.dK [])) := (S1.laid hn3 (o := .dK []) (c := .dct []) ⟨[], Cf, by simp [ba]⟩).2
   have acc_at : (r1 ++ [s2.heap.objs.size])[st1.length]? = some s2.heap.objs.size := by rw [← S1.len]; simp
   generalize hH3 : upd H1 s2.heap.objs.size (.dK []) = H3 at *
   generalize hac : s2.heap.objs.size = ac at *
   generalize hr3 : r1 ++ [ac] = r3 at *
   refine wpAny_newFunctionEnv hcell (by intro y hy; simp at hy) (fun h₁ hns₁ hsb₁ => ?_) hkind
   have hk1 : ∀ b o, s3.heap.get? b = some o → h₁.get? b = some o := fun b o e => hsb₁.extBut b o (Nat.ne_of_lt (Heap.lt_size e)) (Heap.get?_push_of_some _ e)
   have J0 := Rh (N := N) (nl := nl) (fv := fv) (tk := s3.toks + ([] : List (Str × Value)).length) hkind C hN hfv I3 hfp hns₁ hk1
   have n0 := rj (n.mono (k1.trans k13)) nl fv
   generalize hsg0 : (List.replicate nl none ++ fv.map fun k => (sg[k]?).join : L2.St) = sg0 at J0 n0
   have tn0 : tn 0 h₁ := T.keep _ _ _ st2 fun b _ o e => hk1 b o (up3 b o e)
   have bfp : ∀ {H' : Hp}, (∀ b ∈ fp, H' b = none) → ∀ b ∈ fp, Cv (cxG X N scope cl s3.heap.objs.size s3 H3 fp (X.pn ++ pins)) [] H' b := fun hn b hb => by
    obtain ⟨f, hlt⟩ := hfp b hb
    refine ⟨hn b hb, fun z => ?_, mx I3 f, .inl hb, fun y c h => f.2.2.2.2.1 y c (C.sub y c h), fun p hp => f.2.2.2.2.2 p (by rw [List.append_nil] at hp; exact hp)⟩
    have : s3.heap.objs.size < s3.heap.objs.size := by rw [z] at hlt; exact hlt
    exact Nat.lt_irrefl _ this
   have loop : codeAny (model X.prog X.w) X.A (.compLoop (.DictComp kx vx [⟨target, iter, ifs, 0⟩] scope pos) 0 (.ref it) (.ref ac) (Mw X scope cl s3.heap.objs.size))
    (compPost (model X.prog X.w) X.A X.xe none (EP X pins sg Q) (.ref ac) s3.heap.objs.size)
    { s3 with heap := h₁, toks := s3.toks + ([] : List (Str × Value)).length } := by
    refine aar (fun mm s' => ∃ i rho' st' H' sg', L2.Inv (cxG X N scope cl s3.heap.objs.size s3 H3 fp (X.pn ++ pins)) [] sg' H' s' ∧ tn i s'.heap ∧ (∀ b ∈ fp, H' b = none) ∧ g.Keep r3 H3 rho' H' ∧ g.Sto rho' st' H' ∧ g.Env rho' H' (Co nl fv env) sg' ∧ mm = xs.length - i ∧ i ≤ xs.length ∧
     Bu xs p st1.length body (xs.drop i) st' = .ok () stf) ?_ xs.length ⟨0, r3, _, H3, sg0, J0, tn0, fun b hb => (hfp b hb).1.1, .refl _ _, S3, n0, by simp, Nat.zero_le _, hloop⟩
    rintro mm s' ⟨i, rho', st', H', sg', I', tn', fr', kk, S', n', rfl, hi, hl'⟩
    have hst : stays st' p xs = true := by
     cases z : stays st' p xs with
     | true => rfl
     | false =>
      exfalso
      cases e : xs.drop i with
      | nil => rw [e] at hl'; simp only [Bu, z] at hl'; cases hl'
      | cons d t => rw [e] at hl'; simp only [Bu, z] at hl'; cases hl'
    obtain ⟨jstop, jgo⟩ := hJ rho' st' H' (k13.trans kk) S' hst
    by_cases hlt : i < xs.length
    · obtain ⟨hgo, hy⟩ := jgo i xs[i] (List.getElem?_eq_getElem hlt)
      rw [List.drop_eq_getElem_cons hlt] at hl'
      simp only [Bu, hst, if_true] at hl'
      refine thn (T.item (cxG X N scope cl s3.heap.objs.size s3 H3 fp (X.pn ++ pins)) rfl rfl rfl hc i [] s' sg' H' _ I' (bfp fr') tn' hgo) fun r s4 ⟨u, hr4, h4⟩ => ?_
      subst hr4
      refine thn h4 fun _ s5 ⟨x5, H5, I5, r5, y5, tn5, fr5⟩ => ?_
      obtain ⟨e5, rx5⟩ := hy x5 H5 y5
      have k5 : g.Keep rho' H' rho' H5 := Bp.keep e5 rho'
      have kk := kk.trans k5
      have S' := S'.same e5
      have n' := n'.mono k5
      have I5' := I5.pinned (bfp fr5) (T.obj _ _ tn5)
      obtain ⟨env', es⟩ : ∃ env', store tgs one xs[i] (Co nl fv env) = some env' := by
       cases es : store tgs one xs[i] (Co nl fv env) with
       | some env' => exact ⟨env', rfl⟩
       | none =>
        exfalso
        have : body xs[i] st' = .bad := by rw [← hB]; unfold Na; rw [es]
        rw [this] at hl'; cases hl'
      have hbody : body xs[i] st' = (Cz g.tab g.call ifs' env' st').bind fun b st => if b then (Ab g.tab g.call kx' env' st).bind fun k st => (Ab g.tab g.call vx' env' st).bind fun y st => .ok (some (k, y)) st else .ok none st := by
       rw [← hB]; unfold Na; rw [es]
      rw [hbody] at hl'
      obtain ⟨hel, hhi⟩ := ri es htg
      refine wpAny_mono (hg s3.heap.objs.size s3 H3 fp (X.pn ++ pins) _ s5 sg' H5 x5 u (fun sg6 H6 => H6 = H5 ∧ g.Env rho' H6 env' sg6) I5' r5 (ir (g := g) es rx5 n' fun sg6 n6 => ⟨rfl, n6⟩)) (fun _ s6 h6 => ?_) (fun _ _ z => z.elim)
      obtain ⟨sg6, H6, I6, e6, n6⟩ := h6
      subst e6
      obtain ⟨b, st2, eb, hl'⟩ : ∃ b st2, Cz g.tab g.call ifs' env' st' = .ok b st2 ∧ (match (if b then (Ab g.tab g.call kx' env' st2).bind fun k st => (Ab g.tab g.call vx' env' st).bind fun y st => .ok (some (k, y)) st else .ok none st2 : Res (Option (D × D))) with
       | .ok (some (k, y)) st' => (match st'[st1.length]? with
        | some (.dct kvs) => if kvs.length < sizeLine ∧ Dq k = true then Bu xs p st1.length body (xs.drop (i + 1)) (st'.set st1.length (.dct (Fh kvs k y))) else .bad
        | _ => .bad)
       | .ok none st' => Bu xs p st1.length body (xs.drop (i + 1)) st'
       | _ => .bad) = Res.ok () stf := by
       cases eb : Cz g.tab g.call ifs' env' st' with
       | ok b st2 => rw [eb] at hl'; exact ⟨b, st2, rfl, hl'⟩
       | exc c st2 => rw [eb] at hl'; cases hl'
       | bad => rw [eb] at hl'; cases hl'
      refine wpAny_mono (ht s3.heap.objs.size s3 H3 fp (X.pn ++ pins) _ s6 sg6 H6 (fun b' H7 => b' = b ∧ ∃ rho7, g.Keep rho' H6 rho7 H7 ∧ g.Sto rho7 st2 H7) I6 ⟨rho', st', env', S', n6, ?_⟩) (fun ok s7 h7 => ?_) (fun _ _ z => z.elim)
      · show RQ (g.with fun _ _ _ => False) (Cz g.tab g.call ifs' env' st') _ rho' H6
        rw [eb]
        exact fun H7 rho7 k7 s7 => ⟨rfl, rho7, k7, s7⟩
      obtain ⟨H7, I7, e7, rho7, k7, S7⟩ := h7
      subst e7
      have n7 : g.Env rho7 H7 env' sg6 := n6.mono k7
      have done : ∀ (rho9 : List Addr) (st9 : Sto) (H9 : Hp) (s9 : Shared), L2.Inv (cxG X N scope cl s3.heap.objs.size s3 H3 fp (X.pn ++ pins)) ([] ++ ik fp s5.heap) sg6 H9 s9 → g.Keep rho7 H7 rho9 H9 → g.Sto rho9 st9 H9 → Bu xs p st1.length body (xs.drop (i + 1)) st9 = .ok () stf →
       ∃ m, m < xs.length - i ∧ ∃ i rho' st' H' sg', L2.Inv (cxG X N scope cl s3.heap.objs.size s3 H3 fp (X.pn ++ pins)) [] sg' H' s9 ∧ tn i s9.heap ∧ (∀ b ∈ fp, H' b = none) ∧ g.Keep r3 H3 rho' H' ∧ g.Sto rho' st' H' ∧ g.Env rho' H' (Co nl fv env) sg' ∧ m = xs.length - i ∧ i ≤ xs.length ∧ Bu xs p st1.length body (xs.drop i) st' = .ok () stf := by
       intro rho9 st9 H9 s9 I9 k9 S9 hl9
       refine ⟨xs.length - (i + 1), by omega, i + 1, rho9, st9, H9, sg6, I9.unpinned, T.keep _ _ _ tn5 fun b hb o e => (I9.pin (b, o) (List.mem_append_right _ (List.mem_append_right _ (Ik hb e)))).1, fun b hb => ?_, (kk.trans k7).trans k9, S9, Rj rfl hel hhi (n7.mono k9), rfl, hlt, hl9⟩
       obtain ⟨o, e, d⟩ := T.obj _ _ tn5 b hb
       exact (I9.pin (b, o) (List.mem_append_right _ (List.mem_append_right _ (Ik hb e)))).2.1
      cases ok with
      | false =>
       rw [if_neg Bool.false_ne_true]
       simp only [Bool.false_eq_true, if_false] at hl'
       exact done rho7 st2 H7 s7 I7 (.refl _ _) S7 hl'
      | true =>
       rw [if_pos rfl]
       simp only [if_true] at hl'
       obtain ⟨kd, st3, ek, hl'⟩ : ∃ kd st3, Ab g.tab g.call kx' env' st2 = .ok kd st3 ∧ (match ((Ab g.tab g.call vx' env' st3).bind fun y st => .ok (some (kd, y)) st : Res (Option (D × D))) with
        | .ok (some (k, y)) st' => (match st'[st1.length]? with
         | some (.dct kvs) => if kvs.length < sizeLine ∧ Dq k = true then Bu xs p st1.length body (xs.drop (i + 1)) (st'.set st1.length (.dct (Fh kvs k y))) else .bad
         | _ => .bad)
        | .ok none st' => Bu xs p st1.length body (xs.drop (i + 1)) st'
        | _ => .bad) = Res.ok () stf := by
        cases ek : Ab g.tab g.call kx' env' st2 with
        | ok kd st3 => rw [ek] at hl'; exact ⟨kd, st3, rfl, hl'⟩
        | exc c st4 => rw [ek] at hl'; cases hl'
        | bad => rw [ek] at hl'; cases hl'
       obtain ⟨y, st4, ee, hl'⟩ : ∃ y st4, Ab g.tab g.call vx' env' st3 = .ok y st4 ∧ (match st4[st1.length]? with
        | some (.dct kvs) => if kvs.length < sizeLine ∧ Dq kd = true then Bu xs p st1.length body (xs.drop (i + 1)) (st4.set st1.length (.dct (Fh kvs kd y))) else .bad
        | _ => .bad) = Res.ok () stf := by
        cases ee : Ab g.tab g.call vx' env' st3 with
        | ok y st4 => rw [ee] at hl'; exact ⟨y, st4, rfl, hl'⟩
        | exc c st4 => rw [ee] at hl'; cases hl'
        | bad => rw [ee] at hl'; cases hl'
       obtain ⟨kvs, ey, ⟨hys, hkd⟩, hl'⟩ : ∃ kvs, st4[st1.length]? = some (.dct kvs) ∧ (kvs.length < sizeLine ∧ Dq kd = true) ∧ Bu xs p st1.length body (xs.drop (i + 1)) (st4.set st1.length (.dct (Fh kvs kd y))) = .ok () stf := by
        split at hl'
        · rename_i kvs ey
          split at hl'
          · rename_i hys; exact ⟨kvs, ey, hys, hl'⟩
          · cases hl'
        · cases hl'
       refine wpAny_mono (hkx s3.heap.objs.size s3 H3 fp (X.pn ++ pins) _ s7 sg6 H7 (fun w H8 => ∃ rho8, g.Keep rho7 H7 rho8 H8 ∧ g.Sto rho8 st3 H8 ∧ g.Rep rho8 H8 kd w) I7 ⟨rho7, st2, env', S7, n7, ?_⟩) (fun kv s8 h8 => ?_) (fun _ _ z => z.elim)
       · show RQ (g.with fun _ _ _ => False) (Ab g.tab g.call kx' env' st2) _ rho7 H7
         rw [ek]
         exact fun w H8 rho8 k8 s8 r8 => ⟨rho8, k8, s8, r8⟩
       obtain ⟨wk, H8, I8, rw8, rho8, k8, S8, rp8⟩ := h8
       refine wpAny_mono (hvx s3.heap.objs.size s3 H3 fp (X.pn ++ pins) _ s8 sg6 H8 (fun w H9 => ∃ rho9, g.Keep rho8 H8 rho9 H9 ∧ g.Sto rho9 st4 H9 ∧ g.Rep rho9 H9 y w) I8 ⟨rho8, st3, env', S8, n7.mono k8, ?_⟩) (fun yv s9 h9 => ?_) (fun _ _ z => z.elim)
       · show RQ (g.with fun _ _ _ => False) (Ab g.tab g.call vx' env' st3) _ rho8 H8
         rw [ee]
         exact fun w H9 rho9 k9 s9 r9 => ⟨rho9, k9, s9, r9⟩
       obtain ⟨w, H9, I9, rw9, rho9, k9, S9, rp9⟩ := h9
       obtain ⟨kk9, ekk⟩ := Mn hkd
       have rpk := rp8.mono k9
       cases Mo rpk ekk
       have edc : Cw st4 st1.length = some kvs := by unfold Cw; rw [ey]
       obtain ⟨a9, ws, hr9, _, hH9, kv9⟩ := iq S9 edc
       rw [k9.at (k8.at (k7.at (kk.at acc_at)))] at hr9; cases hr9
       obtain ⟨k10, S10⟩ := ro S9 (k9.at (k8.at (k7.at (kk.at acc_at)))) ey hH9 (rn ekk rp9 kv9)
       exact aao (X := cxG X N scope cl s3.heap.objs.size s3 H3 fp (X.pn ++ pins)) I9 hH9 (by rw [← Ko kv9]; exact hys) rw8 rw9 fun s10 I10 => done rho9 _ _ s10 I10 ((k8.trans k9).trans k10) S10 hl'
    · have ei : i = xs.length := by omega
      subst ei
      refine thn (T.done (cxG X N scope cl s3.heap.objs.size s3 H3 fp (X.pn ++ pins)) rfl rfl rfl hc xs.length [] s' sg' H' _ I' (bfp fr') tn' jstop) fun r s4 ⟨hr4, I4⟩ => ?_
      subst hr4
      rw [List.drop_eq_nil_of_le (Nat.le_refl _)] at hl'
      simp only [Bu, hst, if_true] at hl'
      cases hl'
      obtain ⟨m4, hn4, _⟩ := I4.loc
      refine ⟨m4, hn4, fun h' sb => ?_⟩
      refine ⟨.ref ac, H', ?_, rfl, q1 (.ref ac) H' rho' ((k1.trans k13).trans kk) S' (bh.mpr ⟨ac, kk.at acc_at, rfl⟩)⟩
      have u4 : Un (frs X.stack) fp H3 H' s3.heap s4.heap := I4.base
      have hL : ∀ b o, s3.heap.get? b = some o → b ≠ s3.heap.objs.size := fun b o e => Nat.ne_of_lt (Heap.lt_size e)
      have fL : H' s3.heap.objs.size = none := I4.free
      refine I3.call' (s' := { s4 with heap := h' }) (ch := fp) I4.os ⟨fun b o e n hb hx => (sb.2 b (hL b o e)).trans (u4.keep b o e n hb hx), fun b o e n hb hx => ?_, u4.free, fun b o e hx => ?_, u4.tups, u4.frzs, u4.tbls⟩ (fun b o e => ?_) I4.bare fun b hb => ?_
      · obtain ⟨sl, e1⟩ := u4.slot b o e n hb hx
        exact ⟨sl, (sb.2 b (hL b o e)).trans e1⟩
      · obtain ⟨o', e1⟩ := u4.there b o e hx
        exact ⟨o', (sb.2 b (hL b o e)).trans e1⟩
      · refine (I4.hok b o e).stay (fun c u hc' g' => (sb.2 c ?_).trans g') (fun _ h => h) fun _ _ h => h
        intro z
        rcases hc' with rfl | hc'
        · rw [z, fL] at e; cases e
        · rw [z, fL] at hc'; cases hc'
      · obtain ⟨f, _⟩ := hfp b hb
        exact ⟨f.2.2.2.1, f.2.1, f.2.2.2.2.1, f.2.2.2.2.2⟩
   exact codeAny_compStart_dict loop (T.self _ 0 _ _ _ tn0 loop)
 · refine hwi rho st env sg H _ S n ?_
   revert q
   cases Ab g.tab g.call it' env st with
   | bad => exact fun q => q
   | exc c st1 => exact fun q => q
   | ok d st1 =>
    simp only [Bj]
    intro q
    cases ei : Ei k st1 d with
    | none => rw [ei] at q; exact q.elim
    | some xp =>
     obtain ⟨xs, p⟩ := xp
     rw [ei] at q
     exact ⟨xs, p, ei, fun H1 r1 J k1 s1 hJ => ⟨r1, st1, xs, p, k1, s1, hJ, RQ.mono k1 q fun _ _ z => z⟩⟩
variable {g : G} {X : Cx} {pos pos' apos cpos : Pos} {F : Nat} {a b c : Expr} {a' b' c' : E}
variable {g : G} {X : Cx} {pos : Pos} {F : Nat}
variable {g : G} {X : Cx} {pos apos cpos : Pos} {F : Nat}
section
variable {prog : Program} {w : World} {K : Type} [DecidableEq K] {knd : HeapKind prog w K} {A : Around} {E : Value → Shared → Prop} {s : Shared}
end
variable {g : G} {X : Cx} {a b : Expr} {a' b' : E} {pos apos cpos : Pos} {F : Nat}
section
variable {prog : Program} {w : World} {K : Type} [DecidableEq K] {knd : HeapKind prog w K} {A : Around} {E : Value → Shared → Prop} {s : Shared}
end
variable {g : G} {X : Cx} {pos apos cpos : Pos} {o e f : Expr} {o' e' f' : E}
end DD
namespace DD
open PySem PySem.Spec L2
variable {tab : Nat → Ty → Option Bool} {call : Or}
theorem aas : ∀ env st, aq tab call (.var i) env st = (Ab tab call (.var i) env st).bind fun d st => match truth st d with | some b => .ok b st | none => .bad := fun env st => by
 simp only [aq, Ab]
 cases cz env i <;> rfl
theorem Eo : ∀ env st, aq tab call (.call f es dv) env st = (Ab tab call (.call f es dv) env st).bind fun d st => match truth st d with | some b => .ok b st | none => .bad := fun env st => by
 simp only [aq, Ab]
 cases Av tab call es env st <;> rfl
theorem Rq : ∀ env st, aq tab call (.bt f es) env st = (Ab tab call (.bt f es) env st).bind fun d st => match truth st d with | some b => .ok b st | none => .bad := fun env st => by
 simp only [aq, Ab]
 cases Av tab call es env st <;> rfl
theorem Dn : ∀ env st, aq tab call (.isi a t) env st = (Ab tab call (.isi a t) env st).bind fun d st => match truth st d with | some b => .ok b st | none => .bad := fun env st => by
 simp only [aq, Ab]
 cases Ab tab call a env st with
 | ok x st1 =>
  simp only [Bj]
  cases (Di st1 x).bind fun u => Gg tab u t <;> rfl
 | _ => rfl
end DD
namespace DD
open PySem
end DD
namespace DD
open PySem PySem.Spec L2
open PyProof.Rows hiding St RelV
variable {g : G} {X : Cx} {pos : Pos} {F : Nat}
def nc : NameKind → Bool
 | .cell => true
 | .free => true
 | _ => false
def Nc (cells : List (Str × Addr)) : List (Str × Addr) → Prop
 | [] => True
 | p :: l => cells.lookup p.1 = some p.2 ∧ Nc cells l
theorem Rr : ∀ {cl : List (Str × Addr)}, Nc cells cl → ∀ x c, cl.lookup x = some c → cells.lookup x = some c
 | [], _, x, c, h => by cases h
 | (k, a) :: l, ⟨h1, h2⟩, x, c, h => by
  rw [List.lookup_cons] at h
  split at h
  · rename_i e
    cases h; rw [eq_of_beq e]; exact h1
  · exact Rr h2 x c h
def Rt (cl : List (Str × Addr)) (names : List (Str × NameKind)) : Bool := names.all fun p => !nc p.2 || (cl.lookup p.1).isSome
theorem Nd {α : Type} : ∀ {l : List (Str × α)} {x : Str} {a : α}, l.lookup x = some a → (x, a) ∈ l
 | [], x, a, h => by cases h
 | (k, b) :: l, x, a, h => by
  rw [List.lookup_cons] at h
  split at h
  · rename_i e; cases h; rw [eq_of_beq e]; exact .head _
  · exact .tail _ (Nd h)
theorem dy (h1 : Nc X.env.cells cl) (h2 : Rt cl (relabel scope X.env).names = true) : Clos X scope cl := by
 refine ⟨Rr h1, fun x h => ?_⟩
 unfold Rt at h2
 rw [List.all_eq_true] at h2
 rcases h with h | h
 · have := h2 _ (Nd h)
   simp only [nc, Bool.not_true, Bool.false_or] at this
   exact Option.isSome_iff_exists.mp this
 · have := h2 _ (Nd h)
   simp only [nc, Bool.not_true, Bool.false_or] at this
   exact Option.isSome_iff_exists.mp this
def FvO (N XN : List Str) (cl : List (Str × Addr)) (n1 n2 : List (Str × NameKind)) (nl : Nat) : Nat → List Nat → Prop
 | _, [] => True
 | j, k :: l => (∃ x c, N[nl + j]? = some x ∧ XN[k]? = some x ∧ cl.lookup x = some c ∧ (n1.lookup x = some .cell ∨ n1.lookup x = some .free) ∧ (n2.lookup x = some .cell ∨ n2.lookup x = some .free)) ∧ FvO N XN cl n1 n2 nl (j + 1) l
theorem Ru : ∀ {l : List Nat} {a : Nat}, FvO N XN cl n1 n2 nl a l → ∀ j k, l[j]? = some k → ∃ x c, N[nl + (a + j)]? = some x ∧ XN[k]? = some x ∧ cl.lookup x = some c ∧ (n1.lookup x = some .cell ∨ n1.lookup x = some .free) ∧ (n2.lookup x = some .cell ∨ n2.lookup x = some .free)
 | [], a, _, j, k, h => by simp at h
 | k0 :: l, a, ⟨h1, h2⟩, 0, k, h => by
  simp only [List.getElem?_cons_zero, Option.some.injEq] at h
  subst h; exact h1
 | k0 :: l, a, ⟨h1, h2⟩, j + 1, k, h => by
  simp only [List.getElem?_cons_succ] at h
  obtain ⟨x, c, q⟩ := Ru h2 j k h
  refine ⟨x, c, ?_⟩
  rwa [show nl + (a + (j + 1)) = nl + (a + 1 + j) by omega]
theorem Dy (h : FvO N X.N cl X.env.scope.names (relabel scope X.env).names nl 0 fv) :
 ∀ j k, fv[j]? = some k → ∃ x c, N[nl + j]? = some x ∧ X.N[k]? = some x ∧ cl.lookup x = some c ∧ (X.env.scope.names.lookup x = some .cell ∨ X.env.scope.names.lookup x = some .free) ∧ ((relabel scope X.env).names.lookup x = some .cell ∨ (relabel scope X.env).names.lookup x = some .free) := fun j k hj => by
 have := Ru h j k hj
 rwa [Nat.zero_add] at this
variable {g : G} {X : Cx} {pos apos cpos p2 : Pos} {F : Nat} {a b c : Expr} {a' b' c' : E}
end DD
namespace DD
open PySem PySem.Spec L2
open PyProof.Rows hiding St RelV
open PySem.W (kdl_call kdl_values kdl_vals_eq kdl_dict)
variable {g : G} {X : Cx} {pos apos cpos p2 : Pos} {F : Nat} {a b c : Expr} {a' b' c' : E}
end DD
namespace DD
open PySem PySem.Spec
section
variable {pr : Program} {w : World} {A : Around} {Kt : Type} [DecidableEq Kt] {kn : KeyKind pr w Kt}
def met (f : Nat → Kt) : Nat → List Kt
 | 0 => []
 | i + 1 => if f i ∈ met f i then met f i else met f i ++ [f i]
theorem Rv (f : Nat → Kt) : ∀ i, (met f i).length ≤ i
 | 0 => by simp [met]
 | i + 1 => by
  have := Rv f i
  simp only [met]
  split <;> simp <;> omega
theorem aat (f : Nat → Kt) (i : Nat) (k : Kt) : decide (k ∈ met f (i + 1)) = (decide (k ∈ met f i) || decide (k = f i)) := by
 simp only [met]
 split
 · rename_i h
   by_cases e : k = f i
   · subst e; simp [h]
   · simp [e]
 · simp [List.mem_append, Bool.decide_or]
theorem aau (f : Nat → Kt) (i : Nat) : (met f (i + 1)).length = if decide (f i ∈ met f i) = true then (met f i).length else (met f i).length + 1 := by
 simp only [met, decide_eq_true_eq]
 split <;> simp
variable {R : Result → Shared → Prop} {I : Addr} {fp wr : List Addr} {G : Array GenState → Array GenState → Prop} {n : Nat} {P : Nat → Value → Prop} {St : Nat → Shared → Prop}
theorem aav (W : WalksS pr w A.in1 I fp wr G n P St) (T : Addr) (nT : T ∉ fp) (f : Nat → Kt) (hv : ∀ i v, P i v → kn.is (f i) v = true ∧ v.scannable = true) (hb : n + 1 < scanBound) :
 ∀ (k i : Nat) (s : Shared), n - i = k → i ≤ n → St i s → s.heap.SetOf kn T (fun x => decide (x ∈ met f i)) (met f i).length →
  (∀ s1, Moved (T :: wr) G s s1 → s1.heap.SetOf kn T (fun x => decide (x ∈ met f n)) (met f n).length → R (.ok (.ret .none)) s1) →
  codeAny (model pr w) A (.builtin "set.update.loop" ⟨[.ref T, .ref I], []⟩) R s := by
 have nW : T ∉ wr := fun z => nT (W.sub _ z)
 have sb : ∀ b ∈ wr, b ∈ T :: wr := fun b z => List.mem_cons_of_mem _ z
 have kp : ∀ {x y : Shared} {g : Kt → Bool} {m : Nat}, Moved wr G x y → x.heap.SetOf kn T g m → y.heap.SetOf kn T g m := by
  intro x y g m mv z
  obtain ⟨o, es, ep, tb, q, r⟩ := z
  exact ⟨o, es, ep, tb, mv.heap T _ nW q, r⟩
 intro k
 induction k with
 | zero =>
  intro i s e1 e2 ht hT hR
  obtain rfl : i = n := by omega
  refine codeAny_builtin PyProof.Rows.F.entry_set_update_loop ?_
  rw [Around.under_plainId PyProof.Rows.F.plain_set_update_loop _]
  change wpAny _ A.in1 (pyNext (.ref I) >>= _) _ _ s
  refine wpAny_bind (W.done s _ _ ht fun s1 mv => ?_)
  change wpAny _ A.in1 (ret Value.none) _ _ s1
  exact wpAny_pure (hR s1 (mv.mono sb) (kp mv hT))
 | succ k ih =>
  intro i s e1 e2 ht hT hR
  have lt : i < n := by omega
  refine codeAny_builtin PyProof.Rows.F.entry_set_update_loop ?_
  rw [Around.under_plainId PyProof.Rows.F.plain_set_update_loop _]
  change wpAny _ A.in1 (pyNext (.ref I) >>= _) _ _ s
  refine wpAny_bind (W.item i s _ _ lt ht fun v s1 hP ht1 mv => ?_)
  obtain ⟨hk, hs⟩ := hv i v hP
  have hT1 := kp mv hT
  change wpAny _ A.in1 (holding [v] (setAdd T v) >>= _) _ _ s1
  refine wpAny_bind (wpAny_holding ?_)
  unfold setAdd
  refine wpAny_holding (wpAny_bind (kn.pyHash (k := f i) hk ?_))
  have rm : (met f i).length + 1 < scanBound := by have := Rv f i; omega
  refine wpAny_setAddHashed_of (knd := kn) (s := { s1 with toks := s1.toks + 1 }) hk hs hT1 rm fun h1 hsb hT2 => ?_
  have hT3 : h1.SetOf kn T (fun x => decide (x ∈ met f (i + 1))) (met f (i + 1)).length := by
   rw [aau, show (fun x => decide (x ∈ met f (i + 1))) = fun x => decide (x ∈ met f i) || decide (x = f i) from funext (aat f i)]
   exact hT2
  refine wpAny_pure ⟨plainId_quiet PyProof.Rows.F.plain_set_update_loop _, ih (i + 1) _ (by omega) lt (W.frame _ s1 _ _ ht1 (Nat.le_succ _) fun b hb o e => ?_) hT3 fun s2 mv2 hT4 => ?_⟩
  · exact (hsb.2 b fun z => nT (z ▸ hb)).trans e
  · refine hR s2 (Moved.trans W.gtrans ((mv.mono sb).then_heap (Nat.le_succ _) fun b o nb e => ?_) mv2) hT4
    exact (hsb.2 b fun z => nb (z ▸ List.mem_cons_self)).trans e
end
section
variable {pr : Program} {w : World} {A : Around} {Er : Value → Shared → Prop} {s : Shared} {Kt : Type} [DecidableEq Kt] {kn : KeyKind pr w Kt}
abbrev Gj (b : Bool) : Obj := { cls := .type "set", dict := none, data := .set #[] 0 (.fresh 0 0 b) }
theorem aaw (hh : A.handled = none) (hl : s.heap.IsList l its) (hv : ∀ i v, its[i]? = some v → kn.is (f i) v = true ∧ v.scannable = true) (hb : its.size + 1 < scanBound)
 (hq : ∀ (h1 : Heap) (tk : Nat), h1.SetOf kn s.heap.objs.size (fun x => decide (x ∈ met f its.size)) (met f its.size).length → (∀ b o, b < s.heap.objs.size → s.heap.get? b = some o → h1.get? b = some o) → Q (.ref s.heap.objs.size) { s with heap := h1, toks := tk }) :
 wpAny (model pr w) A (call (.type "set") [.ref l]) Q Er s := by
 obtain ⟨c, tl, xm⟩ := PySem.F.called_set.mro
 have x1 := PySem.F.called_set.made
 have x2 := PySem.F.called_set.sub
 refine wpAny_call (codeAny_of_tree ?_)
 change wpAny _ _ (callAny (.type "set") _) _ _ _
 refine wpAny_pure ⟨Code.quiet_builtin _ (by decide +kernel), codeAny_builtin PySem.F.entry_type_call ?_⟩
 rw [Around.under_plain (weight_type_call_type "set" [.ref l] []) rfl]
 have x3 := PySem.F.called_set.notType
 have x4 := PySem.F.called_set.canCreate
 have x5 := PySem.F.typeCall_set_1 (.ref l)
 repeat (any_goals (first | assumption | wp_step))
 refine codeAny_mono (code_set_new_1 (.ref l) (E := Er) (Q₁ := fun ob s1 => ∃ b : Bool, ob = .ref s.heap.objs.size ∧ s1 = { s with heap := s.heap.push (Gj b) }) fun b => ⟨b, rfl, rfl⟩) fun r s1 z => ?_
 cases r with
 | error e => exact z
 | ok fl =>
  cases fl with
  | ret ob =>
   obtain ⟨b, rfl, rfl⟩ := z
   have y1 : (s.heap.push (Gj b)).get? s.heap.objs.size = some (Gj b) := Heap.get?_push_size _ rfl
   have y2 : Shared.TypeIs { s with heap := s.heap.push (Gj b) } (.ref s.heap.objs.size) "set" := ⟨_, y1, rfl⟩
   have y3 := PySem.F.called_set.init.lookup
   have y4 := PySem.F.called_set.init.bind (.ref s.heap.objs.size)
   repeat (any_goals (first | assumption | wp_step))
   refine codeAny_mono (codeAny_call_builtin (R := wants (fun r s2 => r = .none ∧ ∃ h1 tk, s2 = { s with heap := h1, toks := tk } ∧
    h1.SetOf kn s.heap.objs.size (fun x => decide (x ∈ met f its.size)) (met f its.size).length ∧ (∀ b o, b < s.heap.objs.size → s.heap.get? b = some o → h1.get? b = some o)) Er) PySem.F.called_set.init.plain PySem.F.entry_set_init (check_set_init_1 y2 ?_)) fun r2 s2 z2 => ?_
   · obtain ⟨ol, q1, q2, nl, q3⟩ := hl
     obtain ⟨oc, od, oa, os⟩ := ol
     simp only at q2 q3
     subst q2; subst q3
     have q4 : (s.heap.push (Gj b)).get? l = some { cls := .type "list", dict := od, data := .seq its nl, slots := os } := Heap.get?_push_of_some _ q1
     have u1 := PySem.F.sub_list_set
     have u2 := PySem.F.sub_list_frozenset
     have u3 : (Value.type "list" == Value.type "dict") = false := by decide
     have u4 : (s.heap.push (Gj b)).IsList l its := ⟨_, q4, rfl, nl, rfl⟩
     unfold Builtin.«set.__init__» noKeywords Builtin.Frozenset.updateFrom
     generalize gP : pyIter = PI
     wp_walk
     subst gP
     refine wpAny_pyIter_list u4 (wpAny_bind (wpAny_runValue ?_))
     have lS : l < s.heap.objs.size := Heap.lt_size q1
     have n1 : l ≠ (s.heap.push (Gj b)).objs.size := by rw [Heap.size_push]; exact Nat.ne_of_lt (Nat.lt_succ_of_lt lS)
     have n2 : s.heap.objs.size ∉ [(s.heap.push (Gj b)).objs.size, l] := by
      rw [Heap.size_push]
      simp only [List.mem_cons, List.not_mem_nil, or_false, not_or]
      exact ⟨Nat.ne_of_lt (Nat.lt_succ_self _), Nat.ne_of_gt lS⟩
     refine aav (kn := kn) ((Walks.list (by simp [hh]) _ l n1 its).toS) s.heap.objs.size n2 f hv hb (its.size - 0) 0 _ (by omega) (Nat.zero_le _) ⟨⟨_, Heap.get?_push_size _ rfl, rfl, rfl⟩, (u4.push _)⟩ ?start ?fin
     case start => exact (PyProof.Rows.setObjOf_fresh (knd := kn) b).setOf (Heap.get?_push_of_some _ y1) (by unfold scanBound; omega)
     case fin =>
      intro s3 mv hT
      obtain ⟨h3, g3, d3, t3, o3⟩ := s3
      have w1 : g3 = s.gens := mv.gens
      have w2 : d3 = s.drawn := mv.drawn
      have w3 : o3 = s.os := mv.os
      subst w1; subst w2; subst w3
      change wpAny _ _ _ _ _ _
      refine wpAny_pure ?_
      change wpAny _ _ (ret Value.none) _ _ _
      refine wpAny_pure ⟨rfl, h3, t3, rfl, hT, fun b2 o hb2 e => ?_⟩
      refine mv.heap b2 o ?_ (Heap.get?_push_of_some _ (Heap.get?_push_of_some _ e))
      simp only [List.mem_cons, List.not_mem_nil, or_false, not_or]
      exact ⟨Nat.ne_of_lt hb2, by rw [Heap.size_push]; exact Nat.ne_of_lt (Nat.lt_succ_of_lt hb2)⟩
   · cases r2 with
     | error e => exact z2
     | ok fl2 =>
      cases fl2 with
      | ret r =>
       obtain ⟨rfl, h1, tk, rfl, hT, hk⟩ := z2
       repeat (any_goals (first | assumption | wp_step))
       exact hq _ _ hT hk
      | _ => exact z2.elim
  | _ => exact z.elim
end
end DD
namespace DD
open PySem PySem.Spec L2
open PyProof.Rows hiding St RelV
variable {g : G} {X : Cx} {pos apos cpos p2 : Pos} {F : Nat} {a b c : Expr} {a' b' c' : E}
abbrev kAt (ks : List Key) (i : Nat) : Key := (ks[i]?).getD (.inl 0)
def tLS (K : W.Frag) (te : TE) : TE := fun sg H Q => te sg H fun x H1 => ∃ a ks, x = .ref a ∧ SqL K H1 a (ks.map kV) ∧ ks.length < 4000 ∧ Q (.int ((met (kAt ks) ks.length).length : Nat)) H1
theorem aax (r : RelV (kV k) u) : u.scannable = true := by
 cases k with
 | inl i => obtain ⟨t, e⟩ := (show ∃ t, u = Value.int i t from r); subst e; rfl
 | inr x => obtain ⟨t, e⟩ := (show ∃ t, u = Value.str x t from r); subst e; rfl
theorem aay : ∀ {us : List Value}, Vals (ks.map kV) us → ∀ (i : Nat) (u : Value), us[i]? = some u → RelV (kV (kAt ks i)) u := by
 induction ks with
 | nil => intro us h i u e; rw [List.map_nil] at h; cases h; simp at e
 | cons k r ih =>
  intro us h i u e
  rw [List.map_cons] at h
  cases h with
  | cons p t =>
   cases i with
   | zero => simp only [List.getElem?_cons_zero, Option.some.injEq] at e; subst e; exact p
   | succ i => simp only [List.getElem?_cons_succ] at e; have := ih t i u e; simpa [kAt] using this
theorem aaz {n1 n2 : Pos} (hc : X.calm = true) (hg : Gl X "len") (hm : X.mg "len" = none) (hg2 : Gl X "set") (hm2 : X.mg "set" = none) (ha : PE X e te)
 (he : starEach [.Call (.Name "set" n2) [e] [] cpos] X.env = (false, eval (.Call (.Name "set" n2) [e] [] cpos) X.env) :: starEach [] X.env := by rfl) (hpl : (backTo pos (starEach [] X.env)).any (·.1) = false := by rfl)
 (he2 : starEach [e] X.env = (false, eval e X.env) :: starEach [] X.env := by rfl) (hpl2 : (backTo cpos (starEach [] X.env)).any (·.1) = false := by rfl) :
 PE X (.Call (.Name "len" n1) [.Call (.Name "set" n2) [e] [] cpos] [] pos) (tLS X.K te) := by
 intro pins s sg H Q I h
 refine wpAny_Call_Name_kw (gz I hg hm rfl ?_ (by decide) (by decide))
 refine PyProof.Rows.callWith_builtin1 ?_ he hpl
 rw [he]
 show wpAny _ _ (spliced ((false, eval (.Call (.Name "set" n2) [e] [] cpos) X.env) :: backTo pos (starEach [] X.env))) _ _ s
 refine Calls.spliced_cons ?_
 refine wpAny_Call_Name_kw (gz I hg2 hm2 rfl ?_ (by decide) (by decide))
 refine PyProof.Rows.callWith_type1 ?_ he2 hpl2
 rw [he2]
 show wpAny _ _ (spliced ((false, eval e X.env) :: backTo cpos (starEach [] X.env))) _ _ s
 refine Calls.spliced_cons (thn (ha pins s sg H _ I h) fun u s1 ⟨x, H1, I1, rx, q, ks, ex, hx, hz, q1⟩ => Calls.spliced_nil ?_)
 subst ex
 cases rx
 obtain ⟨its, r, ht, _⟩ := I1.list hx
 have hlen : its.length = ks.length := by have := r.length; simpa using this.symm
 have hsz : its.toArray.size = ks.length := by rw [List.size_toArray]; exact hlen
 refine aaw (kn := Cn X.prog X.w) (f := kAt ks) (I1.ok.hd hc) ht.isList (fun i v e => ?_) (by rw [hsz]; unfold scanBound; omega) fun h1 tk hS hk => Calls.spliced_nil ?_
 · have e : its[i]? = some v := by simpa using e
   have rk := aay r i v e
   exact ⟨ke rk, aax rk⟩
 · rw [hsz] at hS
   obtain ⟨o, es, ep, t, ho, hex, hd, hel, hmem, hb, hf, hn⟩ := hS
   refine call_len_set ho hex hd hf (by unfold scanBound at hb; omega) ?_
   refine ⟨.int ((met (kAt ks) ks.length).length : Nat), H1, I1.kept (t' := tk + 1 + 1) fun b ob z => hk b ob (Heap.lt_size z) z, ⟨_, by rw [hn]⟩, q1⟩
def Jo {α : Type} [DecidableEq α] (acc : List α) (x : α) : List α := if x ∈ acc then acc else acc ++ [x]
theorem Rw : ∀ i, i ≤ ks.length → met (kAt ks) i = (ks.take i).foldl Jo []
 | 0, _ => by simp [met]
 | i + 1, h => by
  have ih := Rw (ks := ks) i (by omega)
  have hi : i < ks.length := by omega
  rw [List.take_succ, List.getElem?_eq_getElem hi]
  simp only [Option.toList, List.foldl_append, List.foldl_cons, List.foldl_nil, ← ih]
  have hk : kAt ks i = ks[i] := by simp [kAt, List.getElem?_eq_getElem hi]
  simp only [met, Jo]
  rw [hk]
theorem Rx (h : Paired (fun d k => kD d = some k) acc ak) (e : kD d = some k) : d ∈ acc ↔ k ∈ ak := by
 induction h with
 | nil => simp
 | @cons x y t r p q ih =>
  simp only [List.mem_cons, ih]
  constructor
  · rintro (z | z)
    · subst z; rw [e] at p; cases p; exact .inl rfl
    · exact .inr z
  · rintro (z | z)
    · subst z; exact .inl (Kk e p)
    · exact .inr z
theorem aba (h : Paired (fun d k => kD d = some k) acc ak) (e : kD d = some k) : Paired (fun d k => kD d = some k) (acc ++ [d]) (ak ++ [k]) := by
 induction h with
 | nil => exact .cons e .nil
 | cons p q ih => exact .cons p ih
theorem abb (h : Paired (fun d k => kD d = some k) xs ks) : ∀ {acc : List D} {ak : List Key}, Paired (fun d k => kD d = some k) acc ak → Paired (fun d k => kD d = some k) (xs.foldl Jo acc) (ks.foldl Jo ak) := by
 induction h with
 | nil => intro acc ak h; exact h
 | @cons x y t r p q ih =>
  intro acc ak h
  simp only [List.foldl_cons]
  refine ih ?_
  unfold Jo
  by_cases z : x ∈ acc
  · rw [if_pos z, if_pos ((Rx h p).mp z)]; exact h
  · rw [if_neg z, if_neg (fun z2 => z ((Rx h p).mpr z2))]; exact aba h p
theorem Ry (h : Paired (fun d k => kD d = some k) acc ak) : acc.length = ak.length := by
 induction h with
 | nil => rfl
 | cons p q ih => simp [ih]
theorem abc (h : Paired (fun d k => kD d = some k) xs ks) : (qf xs).length = (met (kAt ks) ks.length).length := by
 rw [Rw _ (Nat.le_refl _), List.take_length]
 exact Ry (abb h .nil)
theorem rz : ∀ {xs : List D} {rho : List Addr} {H : Hp} {vs : List V}, xs.all Dq = true → g.RepL rho H xs vs → ∃ ks : List Key, Paired (fun d k => kD d = some k) xs ks ∧ vs = ks.map kV
 | [], rho, H, vs, _, h => by simp only [G.RepL, RepL] at h; subst h; exact ⟨[], .nil, rfl⟩
 | d :: r, rho, H, vs, hk, h => by
  simp only [List.all_cons, Bool.and_eq_true] at hk
  simp only [G.RepL, RepL] at h
  obtain ⟨v, t, rfl, rd, q⟩ := h
  obtain ⟨k, ek⟩ := Mn hk.1
  obtain ⟨ks, p, rfl⟩ := rz hk.2 q
  exact ⟨k :: ks, .cons ek p, by rw [List.map_cons, Mo rd ek]⟩
theorem abd {n1 n2 : Pos} (hK : X.K = g.K) (hc : X.calm = true) (hg : Gl X "len") (hm : X.mg "len" = none) (hg2 : Gl X "set") (hm2 : X.mg "set" = none) (ha : Sd g X e e')
 (he : starEach [.Call (.Name "set" n2) [e] [] cpos] X.env = (false, eval (.Call (.Name "set" n2) [e] [] cpos) X.env) :: starEach [] X.env := by rfl) (hpl : (backTo pos (starEach [] X.env)).any (·.1) = false := by rfl)
 (he2 : starEach [e] X.env = (false, eval e X.env) :: starEach [] X.env := by rfl) (hpl2 : (backTo cpos (starEach [] X.env)).any (·.1) = false := by rfl) :
 Sd g X (.Call (.Name "len" n1) [.Call (.Name "set" n2) [e] [] cpos] [] pos) (.bt .lenSetB (.cons e' .nil)) := bc (aaz hc hg hm hg2 hm2 ha he hpl he2 hpl2) fun sg H Q q => by
 obtain ⟨rho, st, env, s, n, q⟩ := q
 simp only [Ab, Av, Bj, bind_assoc] at q
 refine step s n q fun d st1 x H1 r1 k1 s1 n1 rp q1 => ?_
 cases d with
 | loc j =>
  simp only [btD] at q1
  split at q1
  · rename_i xs ed
    split at q1
    · rename_i hz
      obtain ⟨p, vs, h1, sq, rl⟩ := Ek s1 ed
      obtain ⟨p2, h2, rfl⟩ := bh.mp rp
      rw [h1] at h2; cases h2
      obtain ⟨ks, pk, rfl⟩ := rz hz.1 rl
      refine ⟨p, ks, rfl, by rw [hK]; exact sq, by rw [← Ry pk]; exact hz.2, ?_⟩
      rw [abc pk] at q1
      exact (show ar g rho H Q (.int _) st1 from q1) _ H1 r1 k1 s1 (aw.mpr rfl)
    · exact q1.elim
  · exact q1.elim
 | _ => exact q1.elim
section
variable {pr : Program} {w : World} {A : Around} {Er : Value → Shared → Prop}
end
variable {g : G} {X : Cx} {pos apos cpos p2 : Pos} {F : Nat} {a b c : Expr} {a' b' c' : E}
theorem iw (hg : Gl X x) (hm : X.mg x = some u) (r : RelV v u) (hr : ∀ rho H, g.Rep rho H d v) (hd : (x == ("__debug__" : Str)) = false := by decide) : Sd g X (.Name x pos) (.cst d) :=
 bc (jh hg hm r hd) fun sg H Q q => by
  obtain ⟨rho, st, env, s, n, q⟩ := q
  simp only [Ab] at q
  exact (show ar g rho H Q d st from q) _ H rho (.refl _ _) s (hr rho H)
variable {g : G} {X : Cx} {pos : Pos} {F : Nat}
end DD
namespace DD
open PySem PySem.Spec L2
open PyProof.Rows hiding St
theorem Rz {K : W.Frag} {rho : List Addr} {H : Hp} : ∀ ns : List Int, RepL K rho H (ns.map D.int) (ns.map V.int)
 | [] => by simp [RepL]
 | n :: r => by simp only [List.map_cons, RepL]; exact ⟨_, _, rfl, by simp [Rep], Rz r⟩
theorem abe {K : W.Frag} {cls : CW} {run : List D → Sto → Res D} {ns : List Int} {st : Sto} (e : run [.loc 0] [.frz (ns.map D.int)] = .ok (.bl true) st)
 (H : Hp) (a : Addr) (hO : Ke H) (hS : SqL K H a (ns.map V.int)) : spD K cls 1 run [.ref a] H (fun v _ => v = .bl true) fun _ _ _ => False := by
 refine ⟨rfl, [a], [.frz (ns.map D.int)], [.loc 0], ⟨rfl, ?_, ?_⟩, ?_, ?_⟩
 · intro n k b c d h1 h2 h3 h4 t1 t2
   cases n with
   | zero => cases h3; cases t1
   | succ n => cases h3
 · intro n b c h1 h2
   cases n with
   | zero =>
    cases h1; cases h2
    refine ⟨ns.map V.int, ?_, Rz ns⟩
    rcases hS with h | h
    · rcases h with h | ⟨o, h⟩
      · rcases hO _ with z | ⟨o, xs, z⟩
        · rw [h] at z; cases z
        · rw [h] at z; cases z
      · exact .inl ⟨o, h⟩
    · exact .inr h
   | succ n => cases h1
 · simp [RepL, Rep]
 · rw [e]
   intro v H' rho' _ _ r
   simpa [Rep] using r
theorem abf (H : Hp) (s : Shared) (e : Value) (s' : Shared) (h : CXd P w [] H s (fun _ _ _ => False) e s') : False := by
 obtain ⟨_, _, _, _, _, _, _, z⟩ := h
 exact z
theorem sv {g : G} {pos : Pos} (h : X.env.scope.names.lookup x = some NameKind.local) (hN : X.N[i]? = some x := by rfl) (hd : (x == ("__debug__" : Str)) = false := by decide) (hcd : (x == ("__classdict__" : Str)) = false := by decide) : Sd g X (.Name x pos) (.var i) := Cs i (pv i hN (Or.inl h) hd hcd)
theorem An {g : G} : ∀ rho H, g.RepL rho H [] [] := fun _ _ => by simp [DD.RepL]
variable {g : G} {X : Cx} {pos : Pos}
end DD
namespace DD
open PySem L2
section
variable {t : Nat → Ty → Option Bool} {call : Or} {F : Nat} {env : DD.Env} {st : Sto}
theorem abg : Ah t call F .nil env st = .ok (.next env) st := by simp only [Ah]
theorem Nf : Ah t call F (.cons s r) env st = (Ak t call F s env st).bind fun f st => match f with
      | .next env' => Ah t call F r env' st
      | f => .ok f st := by simp only [Ah] <;> rfl
theorem abh : Ak t call F (.set i e) env st = (Ab t call e env st).bind fun d st => if i < env.length then .ok (.next (env.set i (some d))) st else .bad := by simp only [Ak]
theorem abi : Ak t call F (.unp is e) env st = (Ab t call e env st).bind fun d st => match store is false d env with | some env' => .ok (.next env') st | none => .bad := by simp only [Ak] <;> rfl
theorem Sa : Ak t call F (.ifS c a b) env st = (aq t call c env st).bind fun x st => if x then Ah t call F a env st else Ah t call F b env st := by simp only [Ak]
theorem Sb : Ak t call F (.ret e) env st = (Ab t call e env st).bind fun d st => .ok (.ret d) st := by simp only [Ak]
theorem sd : Ak t call F (.ex e) env st = (Ab t call e env st).bind fun d st => .ok (.next env) st := by simp only [Ak]
theorem abj : Ak t call F (.whileS c b) env st = whileLoop (aq t call c) (Ah t call F b) F env st := by simp only [Ak]
end
section
variable {t : Nat → Ty → Option Bool} {call : Or} {F : Nat} {env : DD.Env} {st : Sto}
def turn (t : Nat → Ty → Option Bool) (call : Or) (F : Nat) (tg : List Nat) (one : Bool) (b : Ss) (d : D) (env : DD.Env) (st : Sto) : Res Fl := match store tg one d env with | some env' => Ah t call F b env' st | none => .bad
theorem se {tg : List Nat} {one : Bool} {b : Ss} {d : D} {env' : DD.Env} (h : store tg one d env = some env') : turn t call F tg one b d env st = Ah t call F b env' st := by unfold turn; rw [h]
theorem abk {tg : List Nat} {one k : Bool} {it : E} {b : Ss} : Ak t call F (.forS tg one k it b) env st = (Ab t call it env st).bind fun d st => match gh k st d with
      | some (xs, p) => forLoop xs p (turn t call F tg one b) xs env st
      | none => .bad := by simp only [Ak] <;> rfl
theorem abl {tg : List Nat} {es : Es} {b : Ss} : Ak t call F (.forR tg es b) env st = (Av t call es env st).bind fun ds st => match Fi ds with
      | some xs => forLoop xs none (turn t call F tg true b) xs env st
      | none => .bad := by simp only [Ak] <;> rfl
end
theorem Se {all : List D} {p : Option Nat} {body : D → DD.Env → Sto → Res Fl} {J : Nat → DD.Env → Sto → Prop} (hs : ∀ i env st, J i env st → stays st p all = true) :
 ∀ (xs : List D) (i : Nat) (env : DD.Env) (st : Sto), J i env st → (∀ (j : Nat) (d : D), xs[j]? = some d → ∀ env st, J (i + j) env st → ∃ env' st', body d env st = .ok (.next env') st' ∧ J (i + j + 1) env' st') →
 ∃ env' st', forLoop all p body xs env st = .ok (.next env') st' ∧ J (i + xs.length) env' st'
 | [], i, env, st, h, _ => ⟨env, st, by simp only [forLoop]; rw [if_pos (hs _ _ _ h)], h⟩
 | d :: r, i, env, st, h, ht => by
  obtain ⟨e1, s1, h1, h2⟩ := ht 0 d rfl env st h
  obtain ⟨e2, s2, h3, h4⟩ := Se hs r (i + 1) e1 s1 h2 fun j x hx env st hj => by
   have := ht (j + 1) x (by simpa using hx) env st (by rwa [show i + (j + 1) = i + 1 + j by omega])
   rwa [show i + (j + 1) + 1 = i + 1 + j + 1 by omega] at this
  refine ⟨e2, s2, ?_, by rwa [show i + (d :: r).length = i + 1 + r.length by simp; omega]⟩
  simp only [forLoop]
  rw [if_pos (hs _ _ _ h), h1, Bj]
  exact h3
section
variable {st : Sto}
theorem abm : opD .add (.int i) (.int j) st = .ok (.int (i + j)) st := by simp only [opD]
theorem abn : opD .sub (.int i) (.int j) st = .ok (.int (i - j)) st := by simp only [opD]
theorem Sf (h : gf i j) : opD .mul (.int i) (.int j) st = .ok (.int (i * j)) st := by simp only [opD]; rw [if_pos h]
theorem abo (h : Gf j) : opD .fdiv (.int i) (.int j) st = .ok (.int (i.fdiv j)) st := by simp only [opD]; rw [if_pos h]
theorem abp (h : j ≠ 0) : opD .mod (.int i) (.int j) st = .ok (.int (i.fmod j)) st := by simp only [opD]; rw [if_pos h]
theorem abq (h : jl i j) : opD .pow (.int i) (.int j) st = .ok (.int (i ^ j.toNat)) st := by simp only [opD]; rw [if_pos h]
theorem abr (hn : st[n]? = some (.lst xs)) (hm : st[m]? = some (.lst ys)) (h : xs.length + ys.length ≤ sizeLine) : opD .add (.loc n) (.loc m) st = .ok (.loc st.length) (st ++ [.lst (xs ++ ys)]) := by
 simp only [opD, hn, hm]; rw [if_pos h]
theorem abt : cmD .eq (.int i) (.int j) st = .ok (.bl (decide (i = j))) st := by simp [cmD, eqV, au, PyData.eqv] <;> rfl
theorem abu : cmD .ne (.int i) (.int j) st = .ok (.bl (!decide (i = j))) st := by simp [cmD, eqV, au, PyData.eqv] <;> rfl
theorem abv : cmD .lt (.int i) (.int j) st = .ok (.bl (decide (i < j))) st := by simp only [cmD]
theorem abw : cmD .le (.int i) (.int j) st = .ok (.bl (decide (i ≤ j))) st := by simp only [cmD]
theorem abx : cmD .gt (.int i) (.int j) st = .ok (.bl (decide (j < i))) st := by simp only [cmD]
theorem aby : btD .lenB [.tup xs] st = .ok (.int xs.length) st := by simp only [btD]
theorem abz (h : av st n = some xs) : btD .lenB [.loc n] st = .ok (.int xs.length) st := by simp only [btD, h]
theorem aca (e : L2.atI xs i = some d) : ixD (.tup xs) (.int i) st = .ok d st := by simp only [ixD, ixS, fh, atD, e]
theorem acb (h : av st n = some xs) (e : L2.atI xs i = some d) : ixD (.loc n) (.int i) st = .ok d st := by
 simp only [ixD, ixS, fh, h, atD, e]
end
section
variable {t : Nat → Ty → Option Bool} {call : Or} {env : DD.Env} {st : Sto}
theorem acd : Ab t call (.var i) env st = match cz env i with | some d => .ok d st | none => .bad := by simp only [Ab] <;> rfl
theorem ace (h : cz env i = some d) : Ab t call (.var i) env st = .ok d st := by rw [acd, h]
theorem acf : Ab t call (.cst d) env st = .ok d st := by simp only [Ab]
end
theorem gk : ∀ {n m : Nat} {d : D}, okN n d = true → n ≤ m → au st m d = some (pyN n d)
 | n, m, .int i, _, _ => by cases m <;> cases n <;> simp [au, pyN]
 | n, m, .str x, h, _ => by
  have h2 : PyData.canLay0 (.str x) = true := by cases n <;> simpa [okN] using h
  cases m <;> cases n <;> simp [au, pyN, h2]
 | 0, m, .tup ds, h, _ => by simp [okN] at h
 | n + 1, 0, .tup ds, _, h => by omega
 | n + 1, m + 1, .tup ds, h, hm => by
  have all : ∀ ds : List D, ds.all (okN n) = true → bw (ds.map (au st m)) = some (ds.map (pyN n)) := by
   intro ds
   induction ds with
   | nil => intro _ <;> rfl
   | cons d r ih =>
    intro h
    simp only [List.all_cons, Bool.and_eq_true] at h
    simp only [List.map_cons, gk h.1 (by omega : n ≤ m), bw, ih h.2, Option.map_some]
  have h : ds.all (okN n) = true := by simpa [okN] using h
  simp only [au, all ds h, Option.map_some, pyN]
 | n, m, .non, h, _ => by cases n <;> simp [okN] at h
 | n, m, .bl b, h, _ => by cases n <;> simp [okN] at h
 | n, m, .loc b, h, _ => by cases n <;> simp [okN] at h
theorem Kp : ∀ {n : Nat} {x y : D}, okN n x = true → okN n y = true → PyData.eqv (pyN n x) (pyN n y) = decide (x = y) := by
 intro n
 induction n with
 | zero =>
  intro x y h1 h2
  cases x <;> simp [okN] at h1 <;> cases y <;> simp [okN] at h2 <;> simp [pyN, PyData.eqv] <;> (first | rfl | exact Bool.beq_eq_decide_eq _ _)
 | succ n ih =>
  intro x y h1 h2
  cases x with
  | int i => cases y <;> simp [okN] at h2 <;> simp [pyN, PyData.eqv] <;> rfl
  | str i => cases y <;> simp [okN] at h2 <;> simp [pyN, PyData.eqv] <;> rfl
  | tup ds =>
   cases y with
   | int i => simp [pyN, PyData.eqv]
   | str i => simp [pyN, PyData.eqv]
   | tup es =>
    have all : ∀ ds es : List D, ds.all (okN n) = true → es.all (okN n) = true → PyData.eqvAll (ds.map (pyN n)) (es.map (pyN n)) = decide (ds = es) := by
     intro ds
     induction ds with
     | nil => intro es _ _; cases es <;> simp [PyData.eqvAll]
     | cons d r ih2 =>
      intro es h1 h2
      cases es with
      | nil => simp [PyData.eqvAll]
      | cons e t =>
       simp only [List.all_cons, Bool.and_eq_true] at h1 h2
       simp only [List.map_cons, PyData.eqvAll, ih h1.1 h2.1, ih2 t h1.2 h2.2, List.cons.injEq, Bool.decide_and]
    simp only [pyN, PyData.eqv, all ds es (by simpa [okN] using h1) (by simpa [okN] using h2)]
    simp
   | _ => simp [okN] at h2
  | _ => simp [okN] at h1
theorem Sg : ∀ ds es : List D, ds.all (okN n) = true → es.all (okN n) = true → PyData.eqvAll (ds.map (pyN n)) (es.map (pyN n)) = decide (ds = es)
 | [], es, _, _ => by cases es <;> simp [PyData.eqvAll]
 | d :: r, [], _, _ => by simp [PyData.eqvAll]
 | d :: r, e :: t, h1, h2 => by
  simp only [List.all_cons, Bool.and_eq_true] at h1 h2
  simp only [List.map_cons, PyData.eqvAll, Kp h1.1 h2.1, Sg r t h1.2 h2.2, List.cons.injEq, Bool.decide_and]
theorem ng (hm : n ≤ m) : ∀ ds : List D, ds.all (okN n) = true → bw (ds.map (au st m)) = some (ds.map (pyN n))
 | [], _ => rfl
 | d :: r, h => by
  simp only [List.all_cons, Bool.and_eq_true] at h
  simp only [List.map_cons, gk h.1 hm, bw, ng hm r h.2, Option.map_some]
theorem sh (ha : okN n a = true) : ∀ xs : List D, xs.all (okN n) = true → ((xs.map (pyN n)).any fun y => PyData.eqv y (pyN n a)) = decide (a ∈ xs)
 | [], _ => by simp
 | d :: r, h => by
  simp only [List.all_cons, Bool.and_eq_true] at h
  simp only [List.map_cons, List.any_cons, Kp h.1 ha, sh ha r h.2, List.mem_cons, Bool.decide_or]
  congr 1
  simp only [eq_comm]
section
variable {st : Sto} {n : Nat} {a b : D} {xs ys : List D}
theorem acg (ha : okN 40 a = true) (hb : okN 40 b = true) : cmD .eq a b st = .ok (.bl (decide (a = b))) st := by
 simp only [cmD, eqV, gk ha (Nat.le_refl _), gk hb (Nat.le_refl _), Kp ha hb]
theorem ach (ha : okN 40 a = true) (hx : xs.all (okN 40) = true) : cmD .inL a (.tup xs) st = .ok (.bl (decide (a ∈ xs))) st := by
 simp only [cmD, inD, inS, gk ha (Nat.le_refl _), gk (n := 41) (m := 41) (d := .tup xs) (by simpa [okN] using hx) (Nat.le_refl _), pyN, sh ha xs hx]
theorem Sh (h : av st l = some xs) (k : av st m = some ys) (hx : xs.all (okN 39) = true) (hy : ys.all (okN 39) = true) : eqV st (.loc l) (.loc m) = some (decide (xs = ys)) := by
 simp only [eqV, au, h, k, Option.bind_some, ng (Nat.le_refl 39) xs hx, ng (Nat.le_refl 39) ys hy, Option.map_some, PyData.eqv, Sg xs ys hx hy]
theorem aci (h : av st l = some xs) (k : av st m = some ys) (hx : xs.all (okN 39) = true) (hy : ys.all (okN 39) = true) : cmD .eq (.loc l) (.loc m) st = .ok (.bl (decide (xs = ys))) st := by
 simp only [cmD, Sh h k hx hy]
theorem acj (h : av st l = some xs) (k : av st m = some ys) (hx : xs.all (okN 39) = true) (hy : ys.all (okN 39) = true) : cmD .ne (.loc l) (.loc m) st = .ok (.bl (!decide (xs = ys))) st := by
 simp only [cmD, Sh h k hx hy]
end
theorem Bd (h : st[n]? = some (.lst xs)) : av st n = some xs := by simp only [av, h]
def Wr {α : Type} (r : Res α) (Q : α → Sto → Prop) : Prop := ∃ a s, r = .ok a s ∧ Q a s
section
variable {α β : Type} {r : Res α} {Q P : α → Sto → Prop} {a : α} {s : Sto}
theorem Bh (h : Q a s) : Wr (.ok a s) Q := ⟨a, s, rfl, h⟩
theorem Df (e : r = .ok a s) (h : Q a s) : Wr r Q := ⟨a, s, e, h⟩
theorem Wr.imp (h : Wr r P) (g : ∀ a s, P a s → Q a s) : Wr r Q := by
 obtain ⟨a, s, e, p⟩ := h
 exact ⟨a, s, e, g a s p⟩
theorem ao (h : Wr r fun a s => Wr (f a s) R) : Wr (r.bind f) R := by
 obtain ⟨a, s, rfl, p⟩ := h
 exact p
theorem cq (h : A) : ((true = true → A) ∧ (true = false → B)) := ⟨fun _ => h, fun h => by cases h⟩
theorem Bg (h : B) : ((false = true → A) ∧ (false = false → B)) := ⟨(fun h => by cases h), fun _ => h⟩
end
section
variable {t : Nat → Ty → Option Bool} {call : Or} {F : Nat} {env : DD.Env} {st : Sto} {Q : D → Sto → Prop} {QL : List D → Sto → Prop} {QB : Bool → Sto → Prop} {QF : Fl → Sto → Prop}
theorem w_var (h : cz env i = some d) (q : Q d st) : Wr (Ab t call (.var i) env st) Q := ⟨d, st, ace h, q⟩
theorem Ad (q : Q d st) : Wr (Ab t call (.cst d) env st) Q := ⟨d, st, acf, q⟩
theorem af (q : QL [] st) : Wr (Av t call .nil env st) QL := ⟨[], st, by rw [Av], q⟩
theorem Aa (h : Wr (Ab t call e env st) fun d s => Wr (Av t call es env s) fun ds s => QL (d :: ds) s) : Wr (Av t call (.cons e es) env st) QL := by
 rw [Av]
 exact ao (h.imp fun d s h => ao (h.imp fun ds s h => Bh h))
theorem Hh (q : QL [] st) : Wr (ej t call .nil env st) QL := ⟨[], st, by rw [ej], q⟩
theorem Hi (h : Wr (Ab t call e env st) fun d s => ∃ i, d = .int i ∧ Wr (ej t call es env s) fun ds s => QL (.int i :: ds) s) : Wr (ej t call (.cons e es) env st) QL := by
 rw [ej]
 refine ao (h.imp fun d s h => ?_)
 obtain ⟨i, rfl, h⟩ := h
 exact ao (h.imp fun ds s h => Bh h)
theorem az (h : Wr (Av t call es env st) fun ds s => ds.length ≤ sizeLine ∧ Q (.tup ds) s) : Wr (Ab t call (.tupE es) env st) Q := by
 rw [Ab]
 refine ao (h.imp fun ds s h => ?_)
 rw [if_pos h.1]; exact Bh h.2
theorem cu (h : Wr (Av t call es env st) fun ds s => ds.length ≤ sizeLine ∧ Q (.loc s.length) (s ++ [.lst ds])) : Wr (Ab t call (.lstE es) env st) Q := by
 rw [Ab]
 refine ao (h.imp fun ds s h => ?_)
 rw [if_pos h.1]; exact Bh h.2
theorem Aj (h : Wr (Ab t call a env st) fun x s => Wr (Ab t call b env s) fun y s => Wr (opD o x y s) Q) : Wr (Ab t call (.op o a b) env st) Q := by
 rw [Ab]
 exact ao (h.imp fun _ _ h => ao h)
theorem si (h : Wr (Ab t call a env st) fun x s => ∃ i, x = .int i ∧ Q (.int (-i)) s) : Wr (Ab t call (.neg a) env st) Q := by
 rw [Ab]
 refine ao (h.imp fun _ _ h => ?_)
 obtain ⟨i, rfl, h⟩ := h
 exact Bh h
theorem ack (h : Wr (Ab t call a env st) fun x s => Wr (Ab t call b env s) fun y s => Wr (cmD o x y s) Q) : Wr (Ab t call (.cm o a b) env st) Q := by
 rw [Ab]
 exact ao (h.imp fun _ _ h => ao h)
theorem w_and (h : Wr (Ab t call a env st) fun x s => ∃ c, x = .bl c ∧ (c = true → Wr (Ab t call b env s) Q) ∧ (c = false → Q (.bl false) s)) : Wr (Ab t call (.andE a b) env st) Q := by
 rw [Ab]
 refine ao (h.imp fun _ _ h => ?_)
 obtain ⟨c, rfl, h1, h2⟩ := h
 cases c with
 | true => exact h1 rfl
 | false => exact Bh (h2 rfl)
theorem w_not (h : Wr (Ab t call a env st) fun x s => ∃ c, x = .bl c ∧ Q (.bl (!c)) s) : Wr (Ab t call (.notE a) env st) Q := by
 rw [Ab]
 refine ao (h.imp fun _ _ h => ?_)
 obtain ⟨c, rfl, h1⟩ := h
 exact Bh h1
theorem Si (h : Wr (aq t call c env st) fun x s => (x = true → Wr (Ab t call a env s) Q) ∧ (x = false → Wr (Ab t call b env s) Q)) : Wr (Ab t call (.ifE c a b) env st) Q := by
 rw [Ab]
 refine ao (h.imp fun x _ h => ?_)
 cases x with
 | true => exact h.1 rfl
 | false => exact h.2 rfl
theorem Bb (h : Wr (Av t call es env st) fun ds s => Wr (call f (ds ++ dv) s) Q) : Wr (Ab t call (.call f es dv) env st) Q := by
 rw [Ab]; exact ao h
theorem Cj (h : Wr (Av t call es env st) fun ds s => Wr (btD f ds s) Q) : Wr (Ab t call (.bt f es) env st) Q := by
 rw [Ab]; exact ao h
theorem Ax (h : Wr (Ab t call a env st) fun x s => Wr (Ab t call b env s) fun y s => Wr (ixD x y s) Q) : Wr (Ab t call (.ix a b) env st) Q := by
 rw [Ab]
 exact ao (h.imp fun _ _ h => ao h)
theorem kq (h : Wr (Ab t call a env st) fun x s => ∃ u c, Di s x = some u ∧ Gg t u ty = some c ∧ Q (.bl c) s) : Wr (Ab t call (.isi a ty) env st) Q := by
 rw [Ab]
 refine ao (h.imp fun x s h => ?_)
 obtain ⟨u, c, h1, h2, h3⟩ := h
 rw [h1, Option.bind_some, h2]; exact Bh h3
theorem Hj (h : Wr (Ab t call a env st) fun x s => Wr (ej t call es env s) fun ds s => Wr (slD k x ds s) Q) : Wr (Ab t call (.sl k a es) env st) Q := by
 rw [Ab]
 exact ao (h.imp fun _ _ h => ao h)
theorem w_fld (h : Wr (Ab t call o env st) fun x s => ∃ n fs d, x = .loc n ∧ s[n]? = some (.ins c fs) ∧ fs.lookup f = some d ∧ Q d s) : Wr (Ab t call (.fld c o f) env st) Q := by
 rw [Ab]
 refine ao (h.imp fun x s h => ?_)
 obtain ⟨n, fs, d, rfl, h1, h2, h3⟩ := h
 simp only [h1, h2, if_true]
 exact Bh h3
theorem Ep (h : Wr (Ab t call o env st) fun x s => ∃ n fs, x = .loc n ∧ s[n]? = some (.ins c fs) ∧ fs.lookup m = none ∧ Wr (Av t call es env s) fun ds s => Wr (call f (.loc n :: ds) s) Q) : Wr (Ab t call (.br c f m o es) env st) Q := by
 rw [Ab]
 refine ao (h.imp fun x s h => ?_)
 obtain ⟨n, fs, rfl, h1, h2, h3⟩ := h
 simp only [h1, h2, and_self, if_true]
 exact ao h3
theorem Fq (h : Wr (Ab t call o env st) fun x s => rdy m s x = true ∧ Wr (Av t call es env s) fun ds s => Wr (mtD m x ds s) Q) : Wr (Ab t call (.mt m o es) env st) Q := by
 rw [Ab]
 refine ao (h.imp fun x s h => ?_)
 rw [if_pos h.1]; exact ao h.2
theorem Jp (h : Wr (aq t call a env st) fun x s => (x = true → Wr (aq t call b env s) QB) ∧ (x = false → QB false s)) : Wr (aq t call (.andE a b) env st) QB := by
 rw [aq]
 refine ao (h.imp fun x _ h => ?_)
 cases x with
 | true => exact h.1 rfl
 | false => exact Bh (h.2 rfl)
theorem Cq (h : Wr (aq t call a env st) fun x s => (x = true → QB true s) ∧ (x = false → Wr (aq t call b env s) QB)) : Wr (aq t call (.orE a b) env st) QB := by
 rw [aq]
 refine ao (h.imp fun x _ h => ?_)
 cases x with
 | true => exact Bh (h.1 rfl)
 | false => exact h.2 rfl
theorem er (h : Wr (aq t call a env st) fun x s => QB (!x) s) : Wr (aq t call (.notE a) env st) QB := by
 rw [aq]
 exact ao (h.imp fun x _ h => Bh h)
theorem As (h : Wr (Ab t call a env st) fun x s => Wr (Ab t call b env s) fun y s => Wr (cmD o x y s) fun d s => ∃ c, d = .bl c ∧ QB c s) : Wr (aq t call (.cm o a b) env st) QB := by
 rw [aq]
 refine ao (h.imp fun _ _ h => ao (h.imp fun _ _ h => ao (h.imp fun d s h => ?_)))
 obtain ⟨c, rfl, h⟩ := h
 exact Bh h
theorem sj (h : Wr (Av t call es env st) fun ds s => Wr (call f (ds ++ dv) s) fun d s => ∃ c, truth s d = some c ∧ QB c s) : Wr (aq t call (.call f es dv) env st) QB := by
 rw [aq]
 refine ao (h.imp fun _ _ h => ao (h.imp fun d s h => ?_))
 obtain ⟨c, h1, h⟩ := h
 simp only [h1]
 exact Bh h
theorem Gk (h : Wr (Ab t call a env st) fun x s => ∃ u c, Di s x = some u ∧ Gg t u ty = some c ∧ QB c s) : Wr (aq t call (.isi a ty) env st) QB := by
 rw [aq]
 refine ao (h.imp fun x s h => ?_)
 obtain ⟨u, c, h1, h2, h3⟩ := h
 rw [h1, Option.bind_some, h2]; exact Bh h3
theorem Sj (h : Wr (Ab t call a env st) fun x s => Wr (Ab t call b env s) fun y s => Wr (cmD c1 x y s) fun z s => ∃ v, z = .bl v ∧ (v = true → Wr (Ab t call c env s) fun w s => Wr (cmD c2 y w s) fun d s => ∃ c, d = .bl c ∧ QB c s) ∧ (v = false → QB false s)) : Wr (aq t call (.chn c1 c2 a b c) env st) QB := by
 rw [aq]
 refine ao (h.imp fun x _ h => ao (h.imp fun y _ h => ao (h.imp fun z s h => ?_)))
 obtain ⟨v, rfl, h1, h2⟩ := h
 cases v with
 | true =>
  refine ao ((h1 rfl).imp fun _ _ h => ao (h.imp fun d s h => ?_))
  obtain ⟨c, rfl, h⟩ := h
  exact Bh h
 | false => exact Bh (h2 rfl)
def Kt (t : Nat → Ty → Option Bool) (call : Or) (F : Nat) (r : Ss) (Q : Fl → Sto → Prop) (f : Fl) (s : Sto) : Prop := match f with
 | .next env' => Wr (Ah t call F r env' s) Q
 | f => Q f s
theorem aj (h : QF (.next env) st) : Wr (Ah t call F .nil env st) QF := ⟨_, _, abg, h⟩
theorem ag (h : Wr (Ak t call F c env st) (Kt t call F r QF)) : Wr (Ah t call F (.cons c r) env st) QF := by
 rw [Nf]
 refine ao (h.imp fun f s h => ?_)
 cases f <;> first | exact h | exact Bh h
theorem Ag (h : Wr (Ah t call F r env st) QF) : Kt t call F r QF (.next env) st := h
theorem Ba (h : Wr (Ab t call e env st) fun d s => i < env.length ∧ QF (.next (env.set i (some d))) s) : Wr (Ak t call F (.set i e) env st) QF := by
 rw [abh]
 refine ao (h.imp fun d s h => ?_)
 rw [if_pos h.1]; exact Bh h.2
theorem acm (h : Wr (Ab t call e env st) fun d s => ∃ env', store is false d env = some env' ∧ QF (.next env') s) : Wr (Ak t call F (.unp is e) env st) QF := by
 rw [abi]
 refine ao (h.imp fun d s h => ?_)
 obtain ⟨env', h1, h⟩ := h
 simp only [h1]; exact Bh h
theorem bb (h : Wr (aq t call c env st) fun x s => (x = true → Wr (Ah t call F a env s) QF) ∧ (x = false → Wr (Ah t call F b env s) QF)) : Wr (Ak t call F (.ifS c a b) env st) QF := by
 rw [Sa]
 refine ao (h.imp fun x s h => ?_)
 cases x with
 | true => exact h.1 rfl
 | false => exact h.2 rfl
theorem bf (h : Wr (Ab t call e env st) fun d s => QF (.ret d) s) : Wr (Ak t call F (.ret e) env st) QF := by
 rw [Sb]; exact ao (h.imp fun d s h => Bh h)
theorem Bz (h : Wr (Ab t call e env st) fun d s => QF (.next env) s) : Wr (Ak t call F (.ex e) env st) QF := by
 rw [sd]; exact ao (h.imp fun d s h => Bh h)
theorem Ng (h : Wr (Ab t call e env st) fun y s => Wr (Ab t call o env s) fun x s => ∃ n fs, x = .loc n ∧ s[n]? = some (.ins c fs) ∧ fs.length < 900 ∧ QF (.next env) (s.set n (.ins c (cy f y fs)))) : Wr (Ak t call F (.setf c o f e) env st) QF := by
 rw [Ak]
 refine ao (h.imp fun y s h => ao (h.imp fun x s h => ?_))
 obtain ⟨n, fs, rfl, h1, h2, h3⟩ := h
 simp only [h1, h2, and_self, if_true]
 exact Bh h3
theorem sk {tg : List Nat} {one k : Bool} {it : E} {b : Ss} (h : Wr (Ab t call it env st) fun d s => ∃ xs p, gh k s d = some (xs, p) ∧ Wr (forLoop xs p (turn t call F tg one b) xs env s) QF) : Wr (Ak t call F (.forS tg one k it b) env st) QF := by
 rw [abk]
 refine ao (h.imp fun d s h => ?_)
 obtain ⟨xs, p, h1, h⟩ := h
 simp only [h1]; exact h
theorem acn {tg : List Nat} {es : Es} {b : Ss} (h : Wr (Av t call es env st) fun ds s => ∃ xs, Fi ds = some xs ∧ Wr (forLoop xs none (turn t call F tg true b) xs env s) QF) : Wr (Ak t call F (.forR tg es b) env st) QF := by
 rw [abl]
 refine ao (h.imp fun d s h => ?_)
 obtain ⟨xs, h1, h⟩ := h
 simp only [h1]; exact h
theorem nh {tg : List Nat} {one : Bool} {b : Ss} {d : D} {env' : DD.Env} (h : store tg one d env = some env') (w : Wr (Ah t call F b env' st) QF) : Wr (turn t call F tg one b d env st) QF := by
 rw [se h]; exact w
theorem Nh (J : Nat → DD.Env → Sto → Prop) (hs : ∀ i env st, J i env st → stays st p xs = true) (h0 : J 0 env st)
 (ht : ∀ (j : Nat) (d : D), xs[j]? = some d → ∀ env st, J j env st → Wr (body d env st) fun f s => ∃ env', f = .next env' ∧ J (j + 1) env' s)
 (q : ∀ env s, J xs.length env s → QF (.next env) s) : Wr (forLoop xs p body xs env st) QF := by
 obtain ⟨env', s, e, j⟩ := Se hs xs 0 env st h0 fun j d hd env st hj => by
  rw [Nat.zero_add] at hj
  obtain ⟨f, s, e, env', rfl, j⟩ := ht j d hd env st hj
  exact ⟨env', s, e, by rwa [Nat.zero_add]⟩
 rw [Nat.zero_add] at j
 exact ⟨_, _, e, q _ _ j⟩
def Kf (Q : D → Sto → Prop) (f : Fl) (s : Sto) : Prop := match f with
 | .next _ => Q .non s
 | .ret d => Q d s
 | _ => False
theorem Bi (env : DD.Env) (h : fns[f]? = some ⟨np, nl, b⟩) (hl : args.length = np) (hn : np ≤ nl) (he : args.map some ++ List.replicate (nl - np) none = env) (w : Wr (Ah t (Bl t fns F n) F b env st) (Kf Q)) : Wr (Bl t fns F (n + 1) f args st) Q := by
 show Wr (match fns[f]? with
  | some fn => if args.length = fn.np ∧ fn.np ≤ fn.nl then fin (Ah t (Bl t fns F n) F fn.body (args.map some ++ List.replicate (fn.nl - fn.np) none) st) else .bad
  | none => .bad) Q
 rw [h]; simp only; rw [if_pos ⟨hl, hn⟩, he]
 unfold fin
 refine ao (w.imp fun f s h => ?_)
 cases f with
 | next e => exact Bh h
 | ret d => exact Bh h
 | brk e => exact h.elim
 | cont e => exact h.elim
theorem Kq (h : B) : (((!true) = true → A) ∧ ((!true) = false → B)) := Bg h
theorem ni (h : A) : (((!false) = true → A) ∧ ((!false) = false → B)) := cq h
end
section
variable {st : Sto} {Q : D → Sto → Prop} {i j : Int} {n m : Nat} {xs ys : List D} {kvs : List (D × D)} {d k : D}
theorem dg (h : Q (.int (i + j)) st) : Wr (opD .add (.int i) (.int j) st) Q := ⟨_, _, abm, h⟩
theorem Dg (h : Q (.int (i - j)) st) : Wr (opD .sub (.int i) (.int j) st) Q := ⟨_, _, abn, h⟩
theorem aco (g : Io i) (h : Q (.int (i * j)) st) : Wr (opD .mul (.int i) (.int j) st) Q := ⟨_, _, Sf (.inl g), h⟩
theorem acp (g : Io j) (h : Q (.int (i * j)) st) : Wr (opD .mul (.int i) (.int j) st) Q := ⟨_, _, Sf (.inr (.inl g)), h⟩
theorem dz (g : Gf j) (h : Q (.int (i.fdiv j)) st) : Wr (opD .fdiv (.int i) (.int j) st) Q := ⟨_, _, abo g, h⟩
theorem Bq (g : j ≠ 0) (h : Q (.int (i.fmod j)) st) : Wr (opD .mod (.int i) (.int j) st) Q := ⟨_, _, abp g, h⟩
theorem Sk (g : jl i j) (h : Q (.int (i ^ j.toNat)) st) : Wr (opD .pow (.int i) (.int j) st) Q := ⟨_, _, abq g, h⟩
theorem acq (hn : st[n]? = some (.lst xs)) (hm : st[m]? = some (.lst ys)) (g : xs.length + ys.length ≤ sizeLine) (h : Q (.loc st.length) (st ++ [.lst (xs ++ ys)])) : Wr (opD .add (.loc n) (.loc m) st) Q := ⟨_, _, abr hn hm g, h⟩
theorem ck (h : Q (.bl (decide (i = j))) st) : Wr (cmD .eq (.int i) (.int j) st) Q := ⟨_, _, abt, h⟩
theorem Hk (h : Q (.bl (!decide (i = j))) st) : Wr (cmD .ne (.int i) (.int j) st) Q := ⟨_, _, abu, h⟩
theorem Et (h : Q (.bl (decide (i < j))) st) : Wr (cmD .lt (.int i) (.int j) st) Q := ⟨_, _, abv, h⟩
theorem kr (h : Q (.bl (decide (i ≤ j))) st) : Wr (cmD .le (.int i) (.int j) st) Q := ⟨_, _, abw, h⟩
theorem Ni (h : Q (.bl (decide (j < i))) st) : Wr (cmD .gt (.int i) (.int j) st) Q := ⟨_, _, abx, h⟩
theorem nj (h : Q (.bl (decide (d = .non))) st) : Wr (cmD .isN d .non st) Q := ⟨_, _, by simp only [cmD], h⟩
theorem acr (h : Q (.bl (!decide (d = .non))) st) : Wr (cmD .notN d .non st) Q := ⟨_, _, by simp only [cmD], h⟩
theorem Sl (ha : okN 40 a = true) (hb : okN 40 b = true) (h : Q (.bl (decide (a = b))) st) : Wr (cmD .eq a b st) Q := ⟨_, _, acg ha hb, h⟩
theorem jq (ha : okN 40 a = true) (hb : okN 40 b = true) (h : Q (.bl (!decide (a = b))) st) : Wr (cmD .ne a b st) Q := ⟨_, _, by simp only [cmD, eqV, gk ha (Nat.le_refl _), gk hb (Nat.le_refl _), Kp ha hb], h⟩
theorem acs (h1 : av st n = some xs) (h2 : av st m = some ys) (hx : xs.all (okN 39) = true) (hy : ys.all (okN 39) = true) (h : Q (.bl (decide (xs = ys))) st) : Wr (cmD .eq (.loc n) (.loc m) st) Q := ⟨_, _, aci h1 h2 hx hy, h⟩
theorem Nj (h1 : av st n = some xs) (h2 : av st m = some ys) (hx : xs.all (okN 39) = true) (hy : ys.all (okN 39) = true) (h : Q (.bl (!decide (xs = ys))) st) : Wr (cmD .ne (.loc n) (.loc m) st) Q := ⟨_, _, acj h1 h2 hx hy, h⟩
theorem sm (ha : okN 40 a = true) (hx : xs.all (okN 40) = true) (h : Q (.bl (decide (a ∈ xs))) st) : Wr (cmD .inL a (.tup xs) st) Q := ⟨_, _, ach ha hx, h⟩
theorem Ca (e : L2.atI xs i = some d) (h : Q d st) : Wr (ixD (.tup xs) (.int i) st) Q := ⟨_, _, aca e, h⟩
theorem Bk (g : av st n = some xs) (e : L2.atI xs i = some d) (h : Q d st) : Wr (ixD (.loc n) (.int i) st) Q := ⟨_, _, acb g e, h⟩
theorem Fs (h : Q (.int xs.length) st) : Wr (btD .lenB [.tup xs] st) Q := ⟨_, _, aby, h⟩
theorem gm (g : av st n = some xs) (h : Q (.int xs.length) st) : Wr (btD .lenB [.loc n] st) Q := ⟨_, _, abz g, h⟩
theorem acu (g : fh st d = some xs) (h : Q (.loc st.length) (st ++ [.lst xs])) : Wr (btD .listB [d] st) Q := ⟨_, _, by simp only [btD, g], h⟩
theorem Iw (g : st[n]? = some (.lst xs)) (hl : xs.length < sizeLine) (h : Q .non (st.set n (.lst (xs ++ [d])))) : Wr (mtD .append (.loc n) [d] st) Q := ⟨_, _, by simp only [mtD, g]; rw [if_pos hl], h⟩
theorem Kr {k : Nat} {ds : List D} {lo hi : Option Int} (e : kf k ds = some (lo, hi)) (g : av st n = some xs) (h : Q (.loc st.length) (st ++ [.lst (cutD xs lo hi)])) : Wr (slD k (.loc n) ds st) Q := ⟨_, _, by simp only [slD, e, g], h⟩
theorem nk {k : Nat} {ds : List D} {lo hi : Option Int} (e : kf k ds = some (lo, hi)) (h : Q (.tup (cutD xs lo hi)) st) : Wr (slD k (.tup xs) ds st) Q := ⟨_, _, by simp only [slD, e], h⟩
theorem Hl {m : Mt} (g : st[n]? = some (.lst xs)) (hm : rdy m st (.loc n) = Hd st (.loc n) := by rfl) : rdy m st (.loc n) = true := by rw [hm]; simp only [Hd, g]
theorem Sn (g : av st n = some xs) : Di st (.loc n) = some (.b "list") := by
 unfold av at g
 simp only [Di]
 cases z : st[n]? with
 | none => rw [z] at g; cases g
 | some c => rw [z] at g; cases c <;> first | rfl | cases g
end
section
variable {t : Nat → Ty → Option Bool} {call : Or} {F : Nat} {env : DD.Env} {st : Sto} {Q : D → Sto → Prop} {QF : Fl → Sto → Prop}
theorem so (J : Nat → DD.Env → Sto → Prop)
 (ht : ∀ m env st, J m env st → Wr (test env st) fun x s => (x = true → Wr (body env s) fun f s' => ∃ env' m', f = .next env' ∧ m' < m ∧ J m' env' s') ∧ (x = false → QF (.next env) s)) :
 ∀ (g m : Nat) (env : DD.Env) (st : Sto), m < g → J m env st → Wr (whileLoop test body g env st) QF
 | 0, m, env, st, h, _ => by omega
 | g + 1, m, env, st, h, j => by
  simp only [whileLoop]
  refine ao ((ht m env st j).imp fun x s h2 => ?_)
  cases x with
  | false => exact Bh (h2.2 rfl)
  | true =>
   refine ao ((h2.1 rfl).imp fun f s' h3 => ?_)
   obtain ⟨env', m', rfl, hm, j'⟩ := h3
   exact so J ht g m' env' s' (by omega) j'
theorem acv (J : Nat → DD.Env → Sto → Prop) (m : Nat) (hm : m < F) (h0 : J m env st)
 (ht : ∀ m env st, J m env st → Wr (aq t call c env st) fun x s => (x = true → Wr (Ah t call F b env s) fun f s' => ∃ env' m', f = .next env' ∧ m' < m ∧ J m' env' s') ∧ (x = false → QF (.next env) s)) : Wr (Ak t call F (.whileS c b) env st) QF := by
 rw [abj]
 exact so J ht F m env st hm h0
end
section
variable {st : Sto} {Q : D → Sto → Prop} {i j : Int} {n m : Nat} {xs ys : List D} {kvs : List (D × D)} {d k : D}
theorem So {m : Mt} (g : st[n]? = some (.dct kvs)) (hm : rdy m st (.loc n) = (Cw st n).isSome := by rfl) : rdy m st (.loc n) = true := by rw [hm]; simp only [Cw, g, Option.isSome_some]
end
section
variable {t : Nat → Ty → Option Bool} {call : Or} {F : Nat} {env : DD.Env} {st : Sto} {Q : D → Sto → Prop} {QB : Bool → Sto → Prop} {QF : Fl → Sto → Prop}
theorem iy (h : Wr (Ab t call k env st) fun x s => ∃ z d, x = .str z ∧ rows.lookup z = some d ∧ Q d s) : Wr (Ab t call (.tabV rows k) env st) Q := by
 rw [Ab]
 refine ao (h.imp fun x s h => ?_)
 obtain ⟨z, d, rfl, e, h⟩ := h
 simp only [e]; exact Bh h
theorem Sq (h : Wr (Ab t call k env st) fun x s => ∃ z i, x = .str z ∧ rows.lookup z = some i ∧ Q (.loc s.length) (s ++ [.fnc i])) : Wr (Ab t call (.tabF rows k) env st) Q := by
 rw [Ab]
 refine ao (h.imp fun x s h => ?_)
 obtain ⟨z, d, rfl, e, h⟩ := h
 simp only [e]; exact Bh h
theorem Iy (h : Wr (Ab t call k env st) fun x s => ∃ z, x = .str z ∧ QB (xor neg (decide (z ∈ rows))) s) : Wr (aq t call (.tabIn neg rows k) env st) QB := by
 rw [aq]
 refine ao (h.imp fun x s h => ?_)
 obtain ⟨z, rfl, h⟩ := h
 exact Bh h
theorem acw (h : Wr (Ab t call k env st) fun x s => x = .non ∧ QB neg s) : Wr (aq t call (.tabIn neg rows k) env st) QB := by
 rw [aq]
 refine ao (h.imp fun x s h => ?_)
 obtain ⟨rfl, h⟩ := h
 exact Bh h
theorem acx (h : Wr (Ab t call f env st) fun x s => ∃ n i, x = .loc n ∧ s[n]? = some (.fnc i) ∧ is.contains i = true ∧ Wr (Av t call es env s) fun ds s => Wr (call i ds s) Q) : Wr (Ab t call (.callV is f es) env st) Q := by
 rw [Ab]
 refine ao (h.imp fun x s h => ?_)
 obtain ⟨n, i, rfl, e, hi, h⟩ := h
 simp only [e, hi, if_true]
 exact ao h
theorem sr (h : Wr (Ah t call F b env st) QF) : Wr (Ak t call F (.tryS b c i h') env st) QF := by
 obtain ⟨f, s, e, q⟩ := h
 rw [Ak, e]
 exact ⟨f, s, rfl, q⟩
def Nk (t : Nat → Ty → Option Bool) (call : Or) (F : Nat) (t1 : List Nat) (o1 : Bool) (t2 : List Nat) (o2 : Bool) (b : Ss) (d : D) (env : DD.Env) (st : Sto) : Res Fl := match ip t1 o1 t2 o2 d env with | some env' => Ah t call F b env' st | none => .bad
theorem acy (h : Wr (Av t call (.cons a (.cons c .nil)) env st) fun ds s => ∃ xs ys, ds = [.tup xs, .tup ys] ∧ xs.length ≤ ys.length ∧ Wr (dj (fun _ => true) (Nk t call F t1 o1 t2 o2 b) (He xs ys) env s) QF) : Wr (Ak t call F (.forZT t1 o1 t2 o2 a c b) env st) QF := by
 rw [Ak]
 refine ao (h.imp fun ds s h => ?_)
 obtain ⟨xs, ys, rfl, hl, h⟩ := h
 simp only [hl, if_true]; exact h
theorem acz (h : ip t1 o1 t2 o2 d env = some env') (w : Wr (Ah t call F b env' st) QF) : Wr (Nk t call F t1 o1 t2 o2 b d env st) QF := by
 unfold Nk; rw [h]; exact w
theorem w_walk (J : Nat → DD.Env → Sto → Prop) (hs : ∀ i env st, J i env st → ok st = true) :
 ∀ (xs : List D) (k : Nat) (env : DD.Env) (st : Sto), J k env st → (∀ (j : Nat) (d : D), xs[j]? = some d → ∀ env st, J (k + j) env st → Wr (body d env st) fun f s => ∃ env', f = .next env' ∧ J (k + j + 1) env' s) → (∀ env s, J (k + xs.length) env s → QF (.next env) s) → Wr (dj ok body xs env st) QF
 | [], k, env, st, h0, _, q => by
  simp only [dj, hs k env st h0, if_true]
  exact Bh (q env st h0)
 | d :: r, k, env, st, h0, ht, q => by
  simp only [dj, hs k env st h0, if_true]
  refine ao ((ht 0 d rfl env st h0).imp fun f s h => ?_)
  obtain ⟨env', rfl, j⟩ := h
  refine w_walk J hs r (k + 1) env' s j (fun j' d' hd env2 st2 hj => ?_) fun env2 s2 hj => q env2 s2 (by rw [List.length_cons, show k + (r.length + 1) = k + 1 + r.length by omega]; exact hj)
  have := ht (j' + 1) d' (by simpa using hd) env2 st2 (by rw [show k + (j' + 1) = k + 1 + j' by omega]; exact hj)
  rwa [show k + (j' + 1) + 1 = k + 1 + j' + 1 by omega] at this
end
end DD
namespace DD
open PySem PySem.Spec L2
open PyProof.Rows hiding St RelV
variable {g : G} {X : Cx} {a b c : Expr} {a' b' c' : E} {pos apos cpos : Pos} {rest es : List Expr} {es' : Es} {F : Nat}
theorem Sr {p : Pos} 
 (F : FnOk X.prog X.w X.K X.mg X.base (CXd X.prog X.w) k fa fd ps (spD g.K g.cls np (g.call f))) (hr : Room k X.A) (hg : Gl X x) (hm : X.mg x = some (.ref fa)) (hk : W.keepIn X.K (.ref fa) = true) (hb : Binds X.K fd ps ds) (hd : Vals dvs ds)
 (hdv : ∀ rho H, g.RepL rho H dv dvs) (hx : Passes (CXd X.prog X.w) X g.xk) (hl : ∀ ds st, ds.length ≠ np → g.call f ds st = .bad) (hdb : (x == ("__debug__" : Str)) = false := by decide) : Sd g X (.Call (.Name x p) [] [] pos) (.call f .nil dv) :=
 bc (Xo F hr hg hm hk hb hd hx hdb) fun sg H Q q => by
  obtain ⟨rho, st, env, s, n, q⟩ := q
  simp only [Ab, Av, Bj, List.nil_append] at q
  have rr := hdv rho H
  have hlen : dv.length = np := Decidable.byContradiction fun z => by rw [hl _ _ z] at q; exact q
  refine ⟨by rw [← hlen]; exact rr.length.symm, rho, st, dv, s, rr, ?_⟩
  revert q
  cases g.call f dv st with
  | ok d st' => exact fun q1 v H' rho' k s' r => (show ar g rho H Q d st' from q1) v H' rho' k s' r
  | exc c st' => exact fun q1 H' rho' k s' => q1 H' rho' k s'
  | bad => exact fun q1 => q1
theorem su {t' : Nat} {fp : List Addr} {pins : List (Addr × Obj)} {sg : L2.St} {H : Hp} {s : Shared} {h' : Heap} (I : Inv X pins sg H s) (hf : ∀ b ∈ fp, Cv X pins H b) (k : ∀ b o, b ∉ fp → s.heap.get? b = some o → h'.get? b = some o) : Inv X pins sg H { s with heap := h', toks := t' } := by
 have nit : ∀ b u, H b = some u → b ∉ fp := fun b u e z => by rw [(hf b z).1] at e; cases e
 refine I.step (g' := s.gens) (d' := s.drawn) (ch := fp) (fun b hb => ⟨(hf b hb).2.2.2.1, (hf b hb).2.1, (hf b hb).2.2.2.2.1, (hf b hb).2.2.2.2.2⟩) (fun b o _ _ hc e _ => k b o hc e) (fun b o _ _ hc e _ => ⟨o.slots, k b o hc e⟩) (fun _ _ _ _ n => n)
  (fun b o hc e => ⟨o, k b o hc e⟩) (fun _ _ e => e) (fun _ _ _ e => e) (fun b ps e => ⟨#[], by rw [e]; simp⟩) (fun m hm => ?_) (fun b u e => ?_) I.bare
 · obtain ⟨o, es, ep, ho, r⟩ := hm
   exact ⟨o, es, ep, k _ o (fun z => (hf _ z).2.1 rfl) ho, r⟩
 · refine (I.hok b u e).stay (fun c v hc q => k c v ?_ q) (fun _ q => q) fun _ _ q => q
   rcases hc with z | z
   · rw [z]; exact nit b u e
   · exact nit c _ z
section
variable {g : G} {X : Cx} {pos : Pos}
end
section
variable {g : G} {X : Cx} {pos : Pos} {es : List Expr} {es' : Es}
end
end DD
namespace DD
open PySem PySem.Spec L2
section
variable {prog : Program} {w : World} {A : Around} {E : Value → Shared → Prop} {s : Shared}
end
open PyProof.Rows hiding St RelV
variable {g : G} {X : Cx} {pos apos cpos : Pos} {F : Nat}
section
variable {prog : Program} {w : World} {A : Around} {E : Value → Shared → Prop}
end
end DD
namespace DD
open PySem PySem.Spec L2
open PyProof.Rows hiding St RelV
variable {g : G} {X : Cx} {pos apos cpos : Pos} {F : Nat}
variable {g : G} {X : Cx} {pos apos cpos : Pos} {F : Nat}
variable {g : G} {X : Cx} {pos apos cpos : Pos} {F : Nat}
section
variable {K : W.Frag} {cls : CW} {r : List Addr} {H H2 : Hp}
end
theorem ada {J : It} {ws : List D} {ok : Sto → Bool} {T : TG} {sf : D → Env → Option Env} {x' : Ss} {r1 : List Addr} {H1 : Hp} {D : Ends} {sg : L2.St} {st1 : Sto} {env : Env}
 (hJ : ∀ rho st H, g.Keep r1 H1 rho H → g.Sto rho st H → ok st = true → J.stop ws.length H ∧ ∀ (i : Nat) (d : DD.D), ws[i]? = some d → J.go i H ∧ ∀ x H', J.yld i H x H' → Bp H H' ∧ g.Rep rho H' d x)
 (hT : ∀ (rho : List Addr) (H : Hp) (Q : L2.St → Hp → Prop) (d : DD.D) (v : V) (env env' : Env) (sg : L2.St), sf d env = some env' → g.Rep rho H d v → g.Env rho H env sg → (∀ sg', g.Env rho H env' sg' → Q sg' H) → T v sg H Q)
 (s1 : g.Sto r1 st1 H1) (n1 : g.Env r1 H1 env sg) (q1 : RQ g (dj ok (fun d env st => match sf d env with | some env' => Ah g.tab g.call F x' env' st | none => .bad) ws env st1) (Bc g r1 H1 D) r1 H1) :
 ∃ W : Nat → Nat → L2.St → Hp → Prop, (∃ m, W 0 m sg H1) ∧ ∀ i m sg H, W i m sg H →
  (J.stop i H ∧ D.nx sg H) ∨ (J.go i H ∧ ∃ N : L2.St → Hp → Prop, (∀ sg' H', N sg' H' → ∃ m', m' < m ∧ W (i + 1) m' sg' H') ∧ ∀ x H', J.yld i H x H' → T x sg H' fun sg2 H2 => tSs g F x' { D with nx := N, ct := N, bk := D.nx } sg2 H2) := by
 refine ⟨fun i m sg H => m = ws.length - i ∧ i ≤ ws.length ∧ ∃ rho st env, g.Keep r1 H1 rho H ∧ g.Sto rho st H ∧ g.Env rho H env sg ∧ RQ g (dj ok (fun d env st => match sf d env with | some env' => Ah g.tab g.call F x' env' st | none => .bad) (ws.drop i) env st) (Bc g rho H D) rho H, ⟨ws.length, by simp, Nat.zero_le _, r1, st1, env, .refl _ _, s1, n1, q1⟩, ?_⟩
 rintro i m sg H ⟨rfl, hi, rho, st, env, kk, s, n, q⟩
 have hst : ok st = true := by
  cases z : ok st with
  | true => rfl
  | false =>
   exfalso
   cases e : ws.drop i with
   | nil => rw [e] at q; simp only [dj, z] at q; exact q
   | cons d t => rw [e] at q; simp only [dj, z] at q; exact q
 obtain ⟨h1, h2⟩ := hJ rho st H kk s hst
 by_cases hlt : i < ws.length
 · rw [List.drop_eq_getElem_cons hlt] at q
   simp only [dj, hst, if_true] at q
   obtain ⟨hgo, hy⟩ := h2 i ws[i] (List.getElem?_eq_getElem hlt)
   refine .inr ⟨hgo, fun sg H => i + 1 ≤ ws.length ∧ ∃ rho st env, g.Keep r1 H1 rho H ∧ g.Sto rho st H ∧ g.Env rho H env sg ∧ RQ g (dj ok (fun d env st => match sf d env with | some env' => Ah g.tab g.call F x' env' st | none => .bad) (ws.drop (i + 1)) env st) (Bc g rho H D) rho H, fun sg' H' h => ⟨ws.length - (i + 1), by omega, rfl, h.1, h.2⟩, fun x H' y => ?_⟩
   obtain ⟨eS, rx⟩ := hy x H' y
   have k0 : g.Keep rho H rho H' := Bp.keep eS rho
   have q := RQ.mono k0 q fun f st p => Bc.mono k0 p
   have kk := kk.trans k0
   have s := s.same eS
   have n := n.mono k0
   cases es : sf ws[i] env with
   | none => rw [es] at q; exact q.elim
   | some env1 =>
    rw [es] at q
    refine hT rho H' _ _ x env env1 sg es rx n fun sg1 n1 => ?_
    refine ⟨rho, st, env1, s, n1, ?_⟩
    revert q
    simp only
    cases Ah g.tab g.call F x' env1 st with
    | bad => exact fun q => q
    | exc c st2 => exact fun q => q
    | ok f st2 =>
     simp only [Bj]
     cases f with
     | next env2 => exact fun q sg2 H2 r2 k2 s2 n2 => ⟨hlt, r2, st2, env2, kk.trans k2, s2, n2, RQ.mono k2 q fun f st p => Bc.mono k2 p⟩
     | cont env2 => exact fun q sg2 H2 r2 k2 s2 n2 => ⟨hlt, r2, st2, env2, kk.trans k2, s2, n2, RQ.mono k2 q fun f st p => Bc.mono k2 p⟩
     | brk env2 => exact fun q => q
     | ret d => exact fun q => q
 · have e : i = ws.length := by omega
   subst e
   refine .inl ⟨h1, ?_⟩
   rw [List.drop_eq_nil_of_le (Nat.le_refl _)] at q
   simp only [dj, hst, if_true] at q
   exact (show Bc g rho H D (.next env) st from q) sg H rho (.refl _ _) s n
variable {g : G} {X : Cx} {pos apos cpos : Pos} {F : Nat}
theorem adb : bootBuiltins "zip" = some (.type "zip") := by decide +kernel
def tgZ (K : W.Frag) (t1 : List Nat) (o1 : Bool) (t2 : List Nat) (o2 : Bool) : TG := Lx K 2 (jz (tg K t1 o1) (jz (tg K t2 o2) lx))
theorem ade (e : ip t1 o1 t2 o2 d env = some env') (r : g.Rep rho H d v) (n : g.Env rho H env sg) (h : ∀ sg', g.Env rho H env' sg' → Q sg' H) : tgZ g.K t1 o1 t2 o2 v sg H Q := by
 unfold ip at e
 split at e
 · rename_i x y
   obtain ⟨p, vs, rfl, sq, rl⟩ := bz.mp r
   simp only [G.RepL, RepL] at rl
   obtain ⟨v1, w1, rfl, r1, v2, w2, rfl, r2, rfl⟩ := rl
   cases e1 : store t1 o1 x env with
   | none => rw [e1] at e; cases e
   | some env1 =>
    rw [e1, Option.bind_some] at e
    exact ⟨p, _, rfl, sq, rfl, v1, _, rfl, ir e1 r1 n fun sg1 n1 => ⟨v2, _, rfl, ir e r2 n1 fun sg2 n2 => ⟨rfl, h sg2 n2⟩⟩⟩
 · cases e
theorem adf (h : xs.length ≤ ys.length) : (He xs ys).length = xs.length := by simp [He]; omega
end DD
namespace DD
open PySem PySem.Spec L2
open PyProof.Rows hiding St RelV
open PyProof.Rows.KTD (kt_dictFind_strs)
variable {g : G} {X : Cx} {pos apos cpos p p2 : Pos} {F : Nat} {a b : Expr} {a' b' : E}
def TabAt (K : W.Frag) (mg : Str → Option Value) (x : Str) (rows : List (Str × V)) : Prop := ∃ (a : Addr) (o : Obj) (es : Array DictEntry) (ep : Nat), mg x = some (.ref a) ∧ K.lookup a = some o ∧ o.ExactDict ∧ o.data = .dict es ep ∧ (a == sysModules) = false ∧ PyProof.Rows.KTD.Rows RelV es.toList rows
theorem Su (h : PyProof.Rows.KTD.Rows RelV es rows) : (es.all fun e => isExactStrKey e.key) = true := by
 induction h with
 | nil => rfl
 | cons hk _ _ ih => rw [List.all_cons, ih, hk]; rfl
theorem adg (h : PyProof.Rows.KTD.Rows RelV es rows) : (es.findIdx? fun e => e.key.isStr z).isSome = decide (z ∈ rows.map (·.1)) ∧ ∀ i, (es.findIdx? fun e => e.key.isStr z) = some i → ∃ e v, es[i]? = some e ∧ rows.lookup z = some v ∧ RelV v e.val := by
 induction h with
 | nil => exact ⟨by simp, fun i e => by simp at e⟩
 | @cons e x t d es rows hk hv hr ih =>
  have hs : e.key.isStr z = decide (z = x) := by
   rw [hk]
   simp only [Value.isStr]
   by_cases q : z = x
   · subst q; simp
   · rw [decide_eq_false q]
     simpa using fun w => q w.symm
  rw [List.findIdx?_cons, hs]
  by_cases q : z = x
  · subst q
    refine ⟨by simp, fun i h => ?_⟩
    simp at h
    subst h
    exact ⟨e, d, by simp, by simp [List.lookup], hv⟩
  · rw [decide_eq_false q]
    refine ⟨by simp [q, ih.1], fun i h => ?_⟩
    simp only [Bool.false_eq_true, if_false, Option.map_eq_some_iff] at h
    obtain ⟨j, h1, rfl⟩ := h
    obtain ⟨e2, v, g1, g2, g3⟩ := ih.2 j h1
    have hb : (z == x) = false := by simpa using q
    exact ⟨e2, v, by simpa using g1, by rw [List.lookup_cons, hb]; exact g2, g3⟩
section
variable {s : Shared} {E : Value → Shared → Prop} {A : Around}
theorem Sv (ho : s.heap.get? q = some o) (hd : o.data = .dict es ep) (hr : PyProof.Rows.KTD.Rows RelV es.toList rows)
 (h1 : ∀ v u, rows.lookup z = some v → z ∈ rows.map (·.1) → RelV v u → Q (some u) { s with toks := s.toks + 1 }) (h2 : z ∉ rows.map (·.1) → Q none { s with toks := s.toks + 1 }) : wpAny (model X.prog X.w) A (dictGet q (.str z t)) Q E s := by
 unfold dictGet
 try with_reducible refine wpAny_holding ?_
 have hidx : (es.findIdx? fun e => e.key.isStr z) = es.toList.findIdx? fun e => e.key.isStr z := by obtain ⟨l⟩ := es; simp
 refine wpAny_bind (wpAny_pyHash_str (wpAny_bind (kt_dictFind_strs (s := { s with toks := s.toks + 1 }) ho hd (by obtain ⟨l⟩ := es; simpa using Su hr) ?_)))
 rw [hidx]
 obtain ⟨f1, f2⟩ := adg (z := z) hr
 cases hi : es.toList.findIdx? (fun e => e.key.isStr z) with
 | none =>
  rw [hi] at f1
  exact wpAny_pure (h2 (of_decide_eq_false f1.symm))
 | some i =>
  rw [hi] at f1
  obtain ⟨e, v, g1, g2, g3⟩ := f2 i hi
  refine wpAny_bind (wpAny_dictEntries (s := { s with toks := s.toks + 1 }) ho hd (wpAny_pure ?_))
  have : es[i]? = some e := by obtain ⟨l⟩ := es; simpa using g1
  rw [this]
  exact h1 v _ g2 (odt f1.symm) g3
theorem adh (ho : s.heap.get? q = some o) (hd : o.data = .dict es ep) (hall : (es.all fun e => isExactStrKey e.key) = true) (hq : Q none s) : wpAny (model prog w) A (dictFind q .none h) Q E s := by
 have key : ∀ e ∈ es.toList, ∃ z t, e.key = Value.str z t := by
  intro e he
  have := Array.all_eq_true_iff_forall_mem.mp hall e (by simpa using he)
  cases hk : e.key <;> rw [hk] at this <;> first | exact ⟨_, _, rfl⟩ | (simp [isExactStrKey] at this)
 have hc : ((Value.none :: (placesWithHash es.size (fun i => es[i]?.map (·.hash)) h).filterMap fun i => es[i]?.map (·.key)).all carriedByValue) = true := by
  rw [List.all_cons, List.all_eq_true.mpr, Bool.and_true]
  · rfl
  · intro v hv
    obtain ⟨i, _, hi⟩ := List.mem_filterMap.mp hv
    cases he : es[i]? with
    | none => rw [he] at hi; cases hi
    | some e =>
     rw [he] at hi
     obtain rfl : e.key = v := by simpa using hi
     obtain ⟨z, t, hz⟩ := key e (by simpa using Array.mem_of_getElem? he)
     rw [hz]; rfl
 unfold dictFind
 try with_reducible refine wpAny_holding ?_
 refine wpAny_bind (wpAny_dictEntries ho hd ?_)
 dsimp only
 rw [if_pos hc]
 unfold dictWalkPlain
 refine wpAny_bind ?_
 refine wpAny_forIn_list _ (fun rest b s' => s' = s ∧ b = (none, ())) _ ?_ ?_ _ _ ⟨rfl, rfl⟩
 · rintro x rest b s' ⟨rfl, rfl⟩
   dsimp only
   split
   · rename_i e he
     obtain ⟨z, t, hz⟩ := key e (by simpa using Array.mem_of_getElem? he)
     split
     · rw [hz]
       refine wpAny_bind (wpAny_dictEpoch ho hd (wpAny_bind (SeqAt.EqAt.str_none z t prog w E _ (wpAny_bind (wpAny_dictEpoch ho hd ?_)))))
       show wpAny _ _ (if (ep != ep) = true then _ else _) _ E _
       rw [if_neg (by simp)]
       exact wpAny_bind (wpAny_rule (wpAny_pure ⟨rfl, rfl⟩))
     · exact wpAny_pure ⟨rfl, rfl⟩
   · exact wpAny_pure ⟨rfl, rfl⟩
 · rintro b s' ⟨rfl, rfl⟩
   exact wpAny_pure hq
theorem adi (ho : s.heap.get? q = some o) (hd : o.data = .dict es ep) (hr : PyProof.Rows.KTD.Rows RelV es.toList rows) (hq : Q none { s with toks := s.toks + 1 }) : wpAny (model X.prog X.w) A (dictGet q .none) Q E s := by
 unfold dictGet
 try with_reducible refine wpAny_holding ?_
 refine wpAny_bind ?_
 refine W.pyHash_slot (T := "NoneType") rfl F.slot_NoneType_hash F.entry_NoneType_hash (F.args_NoneType_hash_1 _) (beq_builtin_none _) (.inl rfl) (wpAny_bind (wpAny_pure (wpAny_bind (wpAny_mkInt (wpAny_pure ⟨_, _, rfl, ?_⟩)))))
 exact wpAny_bind (adh (s := { s with toks := s.toks + 1 }) ho hd (by obtain ⟨l⟩ := es; simpa using Su hr) (wpAny_pure hq))
end
def adj (q : Addr) (rows : List (Str × V)) : R2 := fun x y H Q => ∃ z v, x = .ref q ∧ y = .str z ∧ rows.lookup z = some v ∧ Q v H
theorem Sw (hl : X.K.lookup q = some o) (hx : o.ExactDict) (hd : o.data = .dict es ep) (hr : PyProof.Rows.KTD.Rows RelV es.toList rows) : IxR X (adj q rows) := by
 intro value slice pins s sg H x y v u Q I rx ry h hs
 obtain ⟨z, w, rfl, rfl, hw, hq⟩ := h
 obtain rfl : v = Value.ref q := rx
 obtain ⟨t, rfl⟩ := (show ∃ t, u = Value.str z t from ry)
 have ho : s.heap.get? q = some o := I.kIn q o hl
 have hT : s.TypeIs (.ref q) "dict" := ⟨o, ho, hx.1⟩
 refine PyProof.Rows.tail_any hT PySem.F.slot_dict_getitem.lookup ?_ hs
 unfold getItem
 try with_reducible refine wpAny_holding ?_
 refine wpAny_bind (wpAny_sequenceKey hT (by decide) ?_)
 refine wpAny_bind (wpAny_callSpecial?_slot (name := Str.ofString "__getitem__") hT PySem.F.slot_dict_getitem (wpAny_call_entry PySem.F.slot_dict_getitem hT PySem.F.entry_dict_getitem ?_ (PySem.args_dict_getitem _ _)))
 show wpAny _ _ (dictGet q (.str z t) >>= _) _ _ s
 refine wpAny_bind (Sv (X := X) ho hd hr (fun w2 u hw2 _ r => wpAny_pure ⟨u, rfl, wpAny_pure ?_⟩) fun hn => ?_)
 · rw [hw] at hw2; cases hw2
   exact ⟨w, H, I.tok _, r, hq⟩
 · exfalso
   refine hn ?_
   clear hr hn
   induction rows with
   | nil => simp at hw
   | cons r t ih =>
    rw [List.lookup_cons] at hw
    by_cases e : z = r.1
    · simp [e]
    · have hb : (z == r.1) = false := by simpa using e
      rw [hb] at hw
      simp only [List.map_cons, List.mem_cons]
      exact .inr (ih hw)
def sx (neg : Bool) (q : Addr) (ks : List Str) : R2 := fun x y H Q => y = .ref q ∧ ((∃ z, x = .str z ∧ Q (.bl (xor neg (decide (z ∈ ks)))) H) ∨ (x = .non ∧ Q (.bl neg) H))
theorem adk (neg : Bool) (hl : X.K.lookup q = some o) (hx : o.ExactDict) (hd : o.data = .dict es ep) (hm : (q == sysModules) = false) (hr : PyProof.Rows.KTD.Rows RelV es.toList rows) : OpR X (compareOp (if neg then .NotIn else .In)) (sx neg q (rows.map (·.1))) := by
 intro pins s sg H x y v u Q I rx ry h
 obtain ⟨rfl, h⟩ := h
 obtain rfl : u = Value.ref q := ry
 have ho : s.heap.get? q = some o := I.kIn q o hl
 have hT : s.TypeIs (.ref q) "dict" := ⟨o, ho, hx.1⟩
 have fin : ∀ {c : Value} {b : Bool}, (∀ {Q2 : Bool → Shared → Prop}, Q2 b { s with toks := s.toks + 1 } → wpAny (model X.prog X.w) X.A (contains (.ref q) c) Q2 X.xe s) → Q (.bl (xor neg b)) H → wpAny (model X.prog X.w) X.A (compareOp (if neg then .NotIn else .In) c (.ref q)) (EP X pins sg Q) X.xe s := by
  intro c b key hq
  cases neg with
  | false =>
   show wpAny _ _ (do return Value.bool (← contains (.ref q) c)) _ _ s
   exact wpAny_bind (key (wpAny_pure ⟨.bl _, H, I.tok _, rfl, by simpa using hq⟩))
  | true =>
   show wpAny _ _ (do return Value.bool (!(← contains (.ref q) c))) _ _ s
   exact wpAny_bind (key (wpAny_pure ⟨.bl _, H, I.tok _, rfl, by simpa using hq⟩))
 rcases h with ⟨z, rfl, hq⟩ | ⟨rfl, hq⟩
 · obtain ⟨t, rfl⟩ := (show ∃ t, v = Value.str z t from rx)
   refine fin (b := decide (z ∈ rows.map (·.1))) ?_ hq
   intro Q2 hq2
   unfold contains
   try with_reducible refine wpAny_holding ?_
   refine wpAny_bind (wpAny_specialOf hT PySem.F.slot_dict_contains.lookup ?_)
   show wpAny _ _ (if (some (Value.builtin "dict.__contains__") == some Value.none) = true then _ else _) _ _ s
   rw [if_neg (by rw [beq_builtin_none]; exact Bool.false_ne_true)]
   refine wpAny_bind (wpAny_callSpecialUnlessNone?_slot (name := Str.ofString "__contains__") hT PySem.F.slot_dict_contains (wpAny_call_entry PySem.F.slot_dict_contains hT PySem.F.entry_dict_contains ?_ (PySem.args_dict_contains _ _)))
   show wpAny _ _ (dictGet q (.str z t) >>= _) _ _ s
   refine wpAny_bind (Sv (X := X) ho hd hr (fun w2 u _ hz r => ?_) fun hn => ?_)
   · rw [decide_eq_true hz] at hq2
     show wpAny _ _ (ret (.bool true)) _ _ _
     exact wpAny_pure ⟨_, rfl, wpAny_truthy_bool hq2⟩
   · rw [decide_eq_false hn] at hq2
     show wpAny _ _ (Builtin.Dict.pendingKey? q (.str z t) >>= _) _ _ _
     exact wpAny_bind (wpAny_pendingKey_other hm (wpAny_pure ⟨_, rfl, wpAny_truthy_bool hq2⟩))
 · obtain rfl : v = Value.none := rx
   refine fin (b := false) ?_ (by simpa using hq)
   intro Q2 hq2
   unfold contains
   try with_reducible refine wpAny_holding ?_
   refine wpAny_bind (wpAny_specialOf hT PySem.F.slot_dict_contains.lookup ?_)
   show wpAny _ _ (if (some (Value.builtin "dict.__contains__") == some Value.none) = true then _ else _) _ _ s
   rw [if_neg (by rw [beq_builtin_none]; exact Bool.false_ne_true)]
   refine wpAny_bind (wpAny_callSpecialUnlessNone?_slot (name := Str.ofString "__contains__") hT PySem.F.slot_dict_contains (wpAny_call_entry PySem.F.slot_dict_contains hT PySem.F.entry_dict_contains ?_ (PySem.args_dict_contains _ _)))
   show wpAny _ _ (dictGet q .none >>= _) _ _ s
   refine wpAny_bind (adi (X := X) ho hd hr ?_)
   show wpAny _ _ (Builtin.Dict.pendingKey? q .none >>= _) _ _ _
   exact wpAny_bind (wpAny_pendingKey_other hm (wpAny_pure ⟨_, rfl, wpAny_truthy_bool hq2⟩))
end DD
namespace DD
open PySem PySem.Spec L2
open PyProof.Rows hiding St RelV
variable {g : G} {X : Cx} {pos apos cpos p p2 : Pos} {F : Nat} {a b : Expr} {a' b' : E} {es : List Expr} {es' : Es}
theorem Nl {α β : Type} (f : α → β) (z : Str) : ∀ rows : List (Str × α), (rows.map fun p => (p.1, f p.2)).lookup z = (rows.lookup z).map f
 | [] => rfl
 | r :: t => by
  rw [List.map_cons, List.lookup_cons, List.lookup_cons]
  cases h : z == r.1 with
  | true => rfl
  | false => exact Nl f z t
theorem adl (h : Mf d = true) : g.Rep rho H d (toV d) := by
 cases d <;> first | exact Dc.mpr rfl | exact bg.mpr rfl | exact aw.mpr rfl | exact Bs.mpr rfl | cases h
theorem lookup_mem {α : Type} {z : Str} {d : α} : ∀ {rows : List (Str × α)}, rows.lookup z = some d → ∃ r ∈ rows, r.2 = d
 | [], h => by simp at h
 | r :: t, h => by
  rw [List.lookup_cons] at h
  cases e : z == r.1 with
  | true => rw [e] at h; cases h; exact ⟨r, by simp, rfl⟩
  | false =>
   rw [e] at h
   obtain ⟨q, hq, hd⟩ := lookup_mem h
   exact ⟨q, List.mem_cons_of_mem _ hq, hd⟩
theorem Sx {x : Str} {rows : List (Str × D)} (hg : Gl X x) (h : TabAt X.K X.mg x (rows.map fun p => (p.1, toV p.2))) (hf : (rows.all fun p => Mf p.2) = true) (hb : Sd g X b b') (hs : Kc b) (hd : (x == ("__debug__" : Str)) = false := by decide) : Sd g X (.Subscript (.Name x p) b pos) (.tabV rows b') := by
 obtain ⟨q, o, es, ep, h1, h2, h3, h4, h5, h6⟩ := h
 refine bc (Md (Sw h2 h3 h4 h6) (jh (v := .ref q) hg h1 rfl hd) hb hs) fun sg H Q q => ?_
 obtain ⟨rho, st, env, s, n, q⟩ := q
 simp only [Ab] at q
 refine step s n q fun d st1 v H1 r1 k1 s1 n1 rp q1 => ?_
 cases d with
 | str z =>
  dsimp only at q1
  split at q1
  · rename_i d e
    obtain ⟨r, hr, rfl⟩ := lookup_mem e
    have hfl : Mf r.2 = true := List.all_eq_true.mp hf r hr
    exact ⟨z, toV r.2, rfl, Bs.mp rp, by rw [Nl, e]; rfl, (show ar g rho H Q r.2 st1 from q1) _ H1 r1 k1 s1 (adl hfl)⟩
  · exact q1.elim
 | _ => exact q1.elim
theorem adm (hg : Gl X x) (h : TabAt X.K X.mg x (rows.map fun p => (p.1, .ref (g.cls.fn p.2)))) (hb : Sd g X b b') (hs : Kc b) (hd : (x == ("__debug__" : Str)) = false := by decide) : Sd g X (.Subscript (.Name x p) b pos) (.tabF rows b') := by
 obtain ⟨q, o, es, ep, h1, h2, h3, h4, h5, h6⟩ := h
 refine bc (Md (Sw h2 h3 h4 h6) (jh (v := .ref q) hg h1 rfl hd) hb hs) fun sg H Q q => ?_
 obtain ⟨rho, st, env, s, n, q⟩ := q
 simp only [Ab] at q
 refine step s n q fun d st1 v H1 r1 k1 s1 n1 rp q1 => ?_
 cases d with
 | str z =>
  dsimp only at q1
  split at q1
  · rename_i i e
    obtain ⟨k2, s2⟩ := s1.alias (p := g.cls.fn i) (c := .fnc i) rfl rfl
    exact ⟨z, .ref (g.cls.fn i), rfl, Bs.mp rp, by rw [Nl (fun j => V.ref (g.cls.fn j)), e]; rfl, (show ar g rho H Q (.loc st1.length) _ from q1) _ H1 _ (k1.trans k2) s2 (bh.mpr ⟨_, by rw [← s1.len]; simp, rfl⟩)⟩
  · exact q1.elim
 | _ => exact q1.elim
theorem adn (h : tE g (.tabIn neg ks a') sg H Q) : tOp (sx neg q ks) (tE g a') (tC (.ref q)) sg H Q := by
 obtain ⟨rho, st, env, s, n, h⟩ := h
 simp only [Ab] at h
 refine step s n h fun d st1 v H1 r1 k1 s1 n1 rp q1 => ?_
 cases d with
 | str z => exact ⟨rfl, .inl ⟨z, Bs.mp rp, (show ar g rho H Q (.bl _) st1 from q1) _ H1 r1 k1 s1 (bg.mpr rfl)⟩⟩
 | non => exact ⟨rfl, .inr ⟨Dc.mp rp, (show ar g rho H Q (.bl _) st1 from q1) _ H1 r1 k1 s1 (bg.mpr rfl)⟩⟩
 | _ => exact q1.elim
theorem ado (q : tT g (.tabIn neg ks a') sg H Q) : tE g (.tabIn neg ks a') sg H (fun x H' => ∃ z, x = .bl z ∧ Q z H') := by
 obtain ⟨rho, st, env, s, n, q⟩ := q
 refine ⟨rho, st, env, s, n, ?_⟩
 simp only [aq] at q
 simp only [Ab]
 revert q
 cases Ab g.tab g.call a' env st with
 | bad => exact fun q => q
 | exc c st1 => exact fun q => q
 | ok x st1 =>
  simp only [Bj]
  cases x with
  | str z => exact fun q v H' rho' k1 s1 r1 => ⟨_, bg.mp r1, (show dc g rho H Q _ st1 from q) H' rho' k1 s1⟩
  | non => exact fun q v H' rho' k1 s1 r1 => ⟨_, bg.mp r1, (show dc g rho H Q _ st1 from q) H' rho' k1 s1⟩
  | _ => exact fun q => q
theorem adp (neg : Bool) (hks : rows.map (·.1) = ks) (hg : Gl X x) (h : TabAt X.K X.mg x rows) (ha : Sd g X a a') (hd : (x == ("__debug__" : Str)) = false := by decide) (hm : behindInMarks (if neg then .NotIn else .In) (.Name x p) = false := by rfl) : SdT g X (.Compare a [if neg then .NotIn else .In] [.Name x p] pos) (.tabIn neg ks a') := by
 obtain ⟨q, o, es, ep, h1, h2, h3, h4, h5, h6⟩ := h
 subst hks
 exact dw (Gd (adk neg h2 h3 h4 h5 h6) ha (jh (v := .ref q) hg h1 rfl hd) hm) fun sg H Q q => adn (ado q)
theorem sy (hks : rows.map (·.1) = ks) (hg : Gl X x) (h : TabAt X.K X.mg x rows) (ha : Sd g X a a') (hd : (x == ("__debug__" : Str)) = false := by decide) (hm : behindInMarks .NotIn (.Name x p) = false := by rfl) : SdT g X (.Compare a [.NotIn] [.Name x p] pos) (.tabIn true ks a') := adp true hks hg h ha hd hm
structure FnV (g : G) (X : Cx) (k np i : Nat) : Prop where
 ok : ∃ fd ps, FnOk X.prog X.w X.K X.mg X.base (CXd X.prog X.w) k (g.cls.fn i) fd ps (spD g.K g.cls np (g.call i)) ∧ Binds X.K fd ps []
 kp : W.keepIn X.K (.ref (g.cls.fn i)) = true
 len : ∀ ds st, ds.length ≠ np → g.call i ds st = .bad
theorem adq (hF : ∀ i ∈ is, FnV g X k np i) (hr : Room k X.A) (hx : Passes (CXd X.prog X.w) X g.xk) (hf : Sd g X (.Name x p) f') (ha : SdL g X (e :: es) es')
 (he : starEach (e :: es) X.env = (false, eval e X.env) :: starEach es X.env := by rfl) (hpl : (backTo pos (starEach es X.env)).any (·.1) = false := by rfl) : Sd g X (.Call (.Name x p) (e :: es) [] pos) (.callV is f' es') := by
 intro pins s sg H Q I h
 obtain ⟨rho, st, env, S, n, q⟩ := h
 simp only [Ab] at q
 refine wpAny_Call_Name_kw (thn (hf pins s sg H (fun v H1 => ∃ i, i ∈ is ∧ v = .ref (g.cls.fn i) ∧ ∃ r1 st1, g.Keep rho H r1 H1 ∧ g.Sto r1 st1 H1 ∧ g.Env r1 H1 env sg ∧ RQ g ((Av g.tab g.call es' env st1).bind fun ds st => g.call i ds st) (ar g rho H Q) r1 H1) I (step S n q fun d st1 x H1 r1 k1 s1 n1 rp q1 => ?_)) fun u s1 ⟨x, H1, I1, rx, i, hi, ex, r1, st1, k1, S1, n1, q1⟩ => ?_)
 · cases d with
   | loc m =>
    dsimp only at q1
    cases ec : st1[m]? with
    | none => rw [ec] at q1; exact q1.elim
    | some c =>
     rw [ec] at q1
     cases c with
     | fnc i =>
      dsimp only at q1
      split at q1
      · rename_i hc
        obtain ⟨a, hra, rfl⟩ := bh.mp rp
        have hca : a = g.cls.fn i := s1.cells m a (.fnc i) hra ec
        subst hca
        exact ⟨i, by simpa using hc, rfl, r1, st1, k1, s1, n1, q1⟩
      · exact q1.elim
     | _ => exact q1.elim
   | _ => exact q1.elim
 · subst ex
   obtain rfl : u = Value.ref (g.cls.fn i) := rx
   obtain ⟨⟨fd, ps, F, hb⟩, hk, hlen⟩ := hF i hi
   refine W.callWith_K (h₀ := X.base) I.ok.mod.kin hk (thn (ha pos pins s1 sg H1 (fun vs H2 => spD g.K g.cls np (g.call i) (vs ++ []) H2 Q g.xk) I1 ?_) fun us s2 ⟨vs, H2, I2, r, q2⟩ => ⟨I2.kIn, ?_⟩) he hpl
   · refine Ej S1 n1 q1 fun ds st2 vs H2 r2 k2 s2 n2 rps q2 => ?_
     have hl : ds.length = np := Decidable.byContradiction fun z => by rw [hlen _ _ z] at q2; exact q2
     refine ⟨by rw [List.append_nil, ← rps.length]; exact hl, r2, st2, ds, s2, by rw [List.append_nil]; exact rps, ?_⟩
     revert q2
     cases g.call i ds st2 with
     | ok d st' => exact fun q v H' rho' k s' r => (show ar g rho H Q d st' from q) v H' rho' ((k1.trans k2).trans k) s' r
     | exc c st' => exact fun q H' rho' k s' => q H' rho' k s'
     | bad => exact fun q => q
   · exact Ji F hr hb (dvs := []) .nil hx I2 r q2
section
variable {prog : Program} {w : World} {A : Around} {E : Value → Shared → Prop} {s : Shared}
theorem Sy (hj : s.heap.IsTupleIter j t k) (ht : s.heap.IsTuple t cs) (hc : cs[k]? = some c)
 (q : ∀ h', h'.IsTupleIter j t (k + 1) → Heap.SameBut j s.heap h' → Q c { s with heap := h' }) : wpAny (model prog w) A (Builtin.SmallTypes.nextOf (.ref j)) Q E s := by
 obtain ⟨oj, e1, e2, e3⟩ := id hj
 obtain ⟨ot, f1, _, m, f2⟩ := ht
 unfold Builtin.SmallTypes.nextOf
 refine wpAny_bind (wpAny_callSpecial?_slot (name := Str.ofString "__next__") hj.typeIs F.slot_tuple_iterator_next (wpAny_call_entry F.slot_tuple_iterator_next hj.typeIs F.entry_tuple_iterator_next ?_ (F.args_tuple_iterator_next_1 _)))
 show wpAny _ _ (field (.ref j) 0 >>= _) _ _ s; refine wpAny_bind (wpAny_field e1 e3 (x := .ref t) rfl ?_)
 show wpAny _ _ (if (Value.ref t == Value.none) = true then _ else _) _ _ s; rw [if_neg (c := (Value.ref t == Value.none) = true) Bool.false_ne_true]
 show wpAny _ _ (field (.ref j) 1 >>= _) _ _ s; refine wpAny_bind (wpAny_field e1 e3 (x := .int k 0) rfl ?_)
 show wpAny _ _ (seqItems? (.ref t) >>= _) _ _ s; refine wpAny_bind (wpAny_seqItems f1 f2 ?_)
 simp only [Int.toNat_natCast, hc]
 refine wpAny_bind (wpAny_setField e1 e3 (by simp) (wpAny_pure ⟨c, rfl, wpAny_pure (q _ ⟨_, Heap.get?_update_self _ e1 (Obj.isFreed_of_fields (Obj.data_mapFields e3 _)), (Obj.cls_mapFields ..).trans e2, ?_⟩ (Heap.SameBut.update ..))⟩))
 rw [Obj.data_mapFields e3]; simp [rawInt]
theorem ads (hh : A.handled = none) (hj : s.heap.IsTupleIter j t k) (ht : s.heap.IsTuple t cs) (hc : cs[k]? = none)
 (q : ∀ h' e, Heap.ExtBut j s.heap h' → (∃ o, h'.get? e = some o ∧ o.cls = .type "StopIteration") → E (.ref e) { s with heap := h' }) : wpAny (model prog w) A (Builtin.SmallTypes.nextOf (.ref j)) Q E s := by
 obtain ⟨oj, e1, e2, e3⟩ := id hj
 obtain ⟨ot, f1, _, m, f2⟩ := ht
 unfold Builtin.SmallTypes.nextOf
 refine wpAny_bind (wpAny_callSpecial?_slot (name := Str.ofString "__next__") hj.typeIs F.slot_tuple_iterator_next (wpAny_call_entry F.slot_tuple_iterator_next hj.typeIs F.entry_tuple_iterator_next ?_ (F.args_tuple_iterator_next_1 _)))
 show wpAny _ _ (field (.ref j) 0 >>= _) _ _ s; refine wpAny_bind (wpAny_field e1 e3 (x := .ref t) rfl ?_)
 show wpAny _ _ (if (Value.ref t == Value.none) = true then _ else _) _ _ s; rw [if_neg (c := (Value.ref t == Value.none) = true) Bool.false_ne_true]
 show wpAny _ _ (field (.ref j) 1 >>= _) _ _ s; refine wpAny_bind (wpAny_field e1 e3 (x := .int k 0) rfl ?_)
 show wpAny _ _ (seqItems? (.ref t) >>= _) _ _ s; refine wpAny_bind (wpAny_seqItems f1 f2 ?_)
 simp only [Int.toNat_natCast, hc]
 refine wpAny_bind (wpAny_rule (wpAny_bind (wpAny_setField e1 e3 (by simp) ?_))); show wpAny _ _ (newExc (.type "StopIteration") [] >>= _) _ _ _
 refine wpAny_bind ?_; simp only [newExc, newTuple]
 refine wpAny_bind (wpAny_newObj_type (wpAny_bind (m := firstArgMember _ _) (wpAny_of_eq (a := Value.none) (by first | rfl | (simp only [firstArgMember]; rfl)) (wpAny_newObj_type ?_ (by size_fits)))) (by size_fits))
 simp only [raiseNew]; refine wpAny_bind (wpAny_handled ?_); first | rw [show A.in1.handled = none from hh] | rw [hh]
 refine wpAny_bind (wpAny_pure (wpAny_throw ?_)); exact q _ _ (((Heap.SameBut.update ..).extBut.push _).push _) ⟨_, Heap.get?_push_size _ rfl, rfl⟩
def Ks (l1 l2 z TI TO i1 i2 : Addr) (i : Nat) (h : Heap) : Prop := IsZip h z TI TO .none ∧ IsPair h TI (.ref i1) (.ref i2) ∧ (∃ a b, IsPair h TO a b) ∧ h.IsTupleIter i1 l1 i ∧ h.IsTupleIter i2 l2 i
theorem adt {z TI TO i1 i2 l1 l2 : Addr} {k : Nat} {xs ys : Array Value} {c d : Value} {Q : Option Value → Shared → Prop} (P : ZipApart z TI TO i1 i2 l1 l2) (st : Ks l1 l2 z TI TO i1 i2 k s.heap) (t1 : s.heap.IsTuple l1 xs) (t2 : s.heap.IsTuple l2 ys) (hx : xs[k]? = some c) (hy : ys[k]? = some d)
 (q : ∀ h', IsZip h' z TI TO (rawInt s.heap.objs.size) → IsPair h' TI (.ref i1) (.ref i2) → IsPair h' TO c d → h'.IsTupleIter i1 l1 (k + 1) → h'.IsTupleIter i2 l2 (k + 1) → IsPair h' s.heap.objs.size c d → h'.objs.size = s.heap.objs.size + 1 →
  (∀ b o, b ≠ z → b ≠ TO → b ≠ i1 → b ≠ i2 → s.heap.get? b = some o → h'.get? b = some o) → Q (some (.ref s.heap.objs.size)) { s with heap := h' }) : wpAny (model prog w) A (pyNext (.ref z)) Q E s := by
 obtain ⟨hz, hTI, ⟨a0, b0, hTO⟩, j1, j2⟩ := st
 have hT : s.TypeIs (.ref z) "zip" := ⟨_, hz, rfl⟩
 unfold pyNext
 refine wpAny_bind (wpAny_attempt (wpAny_callSpecial?_slot (name := Str.ofString "__next__") hT F.slot_zip_next (wpAny_call_entry F.slot_zip_next hT F.entry_zip_next ?_ (F.args_zip_next_1 _))))
 show wpAny _ _ (field (.ref z) 2 >>= _) _ _ _; refine wpAny_bind (wpAny_field hz rfl (x := .bool false) rfl ?_)
 show wpAny _ _ (field (.ref z) 3 >>= _) _ _ _; refine wpAny_bind (wpAny_field hz rfl (x := .ref TI) rfl (wpAny_bind (wpAny_seqItems hTI rfl ?_)))
 show wpAny _ _ (Builtin.SmallTypes.ownedTupleIsFree (.ref z) >>= _) _ _ _; refine wpAny_bind ?_; unfold Builtin.SmallTypes.ownedTupleIsFree
 refine wpAny_bind (wpAny_field hz rfl (x := .none) rfl (wpAny_pure ?_)); simp only [if_true]
 refine wpAny_bind (wpAny_rule (wpAny_bind (wpAny_field hz rfl (x := .ref TO) rfl (wpAny_bind (wpAny_setField_rec hz (by simp) fun u1 z1 b1 => ?_)))))
 replace z1 : IsZip u1 z TI TO .ellipsis := z1
 refine wpAny_bind ?_; simp only [List.zipIdx_cons, List.zipIdx_nil, List.forIn_cons, List.forIn_nil]
 refine wpAny_bind (wpAny_bind (wpAny_onRaise ?_)); show wpAny _ _ (Builtin.SmallTypes.nextOf (.ref i1) >>= _) _ _ _
 refine wpAny_bind (Sy (j1.extBut b1.extBut P.i1z) (t1.extBut b1.extBut P.l1z) hx fun u2 j1b b2 => wpAny_pure ?_)
 have o2 : IsPair u2 TO a0 b0 := b2.extBut _ _ P.TOi1 (b1.extBut _ _ P.TOz hTO)
 refine wpAny_bind (wpAny_seqItems o2 rfl (wpAny_bind (wpAny_updateSeq_pair o2 fun u3 o3 b3 => ?_)))
 replace o3 : IsPair u3 TO c b0 := o3
 refine wpAny_bind (wpAny_letGo (wpAny_pure (wpAny_bind (wpAny_bind (wpAny_onRaise ?_))))); show wpAny _ _ (Builtin.SmallTypes.nextOf (.ref i2) >>= _) _ _ _
 refine wpAny_bind (Sy (((j2.extBut b1.extBut P.i2z).extBut b2.extBut P.i12.symm).extBut b3.extBut P.TOi2.symm) (((t2.extBut b1.extBut P.l2z).extBut b2.extBut P.l2i1).extBut b3.extBut P.l2TO) hy fun u4 j2b b4 => wpAny_pure ?_)
 have o4 : IsPair u4 TO c b0 := b4.extBut _ _ P.TOi2 o3
 refine wpAny_bind (wpAny_seqItems o4 rfl (wpAny_bind (wpAny_updateSeq_pair o4 fun u5 o5 b5 => ?_)))
 replace o5 : IsPair u5 TO c d := o5
 refine wpAny_bind (wpAny_letGo (wpAny_pure (wpAny_pure (wpAny_bind (wpAny_seqItems o5 rfl (wpAny_bind (wpAny_newTuple ?_)))))))
 have sz : u5.objs.size = s.heap.objs.size := by rw [b5.1, b4.1, b3.1, b2.1, b1.1]
 have z5 : IsZip u5 z TI TO .ellipsis := b5.extBut _ _ P.TOz.symm (b4.extBut _ _ P.i2z.symm (b3.extBut _ _ P.TOz.symm (b2.extBut _ _ P.i1z.symm z1)))
 have k5 : ∀ b o, b ≠ z → b ≠ TO → b ≠ i1 → b ≠ i2 → s.heap.get? b = some o → u5.get? b = some o := fun b o n1 n2 n3 n4 e => b5.extBut _ _ n2 (b4.extBut _ _ n4 (b3.extBut _ _ n2 (b2.extBut _ _ n3 (b1.extBut _ _ n1 e))))
 have j15 : u5.IsTupleIter i1 l1 (k + 1) := ((j1b.extBut b3.extBut P.TOi1.symm).extBut b4.extBut P.i12).extBut b5.extBut P.TOi1.symm
 have j25 : u5.IsTupleIter i2 l2 (k + 1) := j2b.extBut b5.extBut P.TOi2.symm
 have lz : z < u5.objs.size := Heap.lt_size z5
 show wpAny _ _ (Builtin.SmallTypes.ownedTupleHandOut (.ref z) (.ref u5.objs.size) >>= _) _ _ _; refine wpAny_bind ?_; unfold Builtin.SmallTypes.ownedTupleHandOut
 have z6 : IsZip (u5.push { cls := .type "tuple", data := .seq #[c, d] }) z TI TO .ellipsis := Heap.get?_push_of_some _ z5
 refine wpAny_bind (wpAny_setField_rec z6 (by simp) fun u7 z7 b7 => ?_)
 replace z7 : IsZip u7 z TI TO (rawInt u5.objs.size) := z7
 refine wpAny_setField_rec z7 (by simp) fun u8 z8 b8 => ?_
 replace z8 : IsZip u8 z TI TO (rawInt u5.objs.size) := z8
 have up : ∀ b o, b ≠ z → u5.get? b = some o → u8.get? b = some o := fun b o n e => b8.extBut _ _ n (b7.extBut _ _ n (Heap.get?_push_of_some _ e))
 have p8 : IsPair u8 u5.objs.size c d := b8.extBut _ _ (Nat.ne_of_gt lz) (b7.extBut _ _ (Nat.ne_of_gt lz) (Heap.get?_push_size _ rfl))
 have s8 : u8.objs.size = u5.objs.size + 1 := by rw [b8.1, b7.1, Heap.size_push]
 rw [sz] at z8 p8 s8
 refine wpAny_pure ⟨_, rfl, ?_⟩
 show wpAny _ _ (pure (some (Value.ref u5.objs.size))) _ _ _
 rw [sz]
 exact wpAny_pure (q u8 z8 (up _ _ P.TIz (k5 _ _ P.TIz P.TITO P.TIi1 P.TIi2 hTI)) (up _ _ P.TOz o5) (j15.at fun o e => up _ o P.i1z e) (j25.at fun o e => up _ o P.i2z e) p8 s8 fun b o n1 n2 n3 n4 e => up b o n1 (k5 b o n1 n2 n3 n4 e))
theorem adu {z TI TO i1 i2 l1 l2 : Addr} {k : Nat} {xs : Array Value} {Q : Option Value → Shared → Prop} (hh : A.handled = none) (P : ZipApart z TI TO i1 i2 l1 l2) (st : Ks l1 l2 z TI TO i1 i2 k s.heap) (t1 : s.heap.IsTuple l1 xs) (hx : xs[k]? = none)
 (q : ∀ h', (∀ b o, b ≠ z → b ≠ TO → b ≠ i1 → b ≠ i2 → s.heap.get? b = some o → h'.get? b = some o) → Q none { s with heap := h' }) : wpAny (model prog w) A (pyNext (.ref z)) Q E s := by
 obtain ⟨hz, hTI, ⟨a0, b0, hTO⟩, j1, j2⟩ := st
 have hT : s.TypeIs (.ref z) "zip" := ⟨_, hz, rfl⟩
 unfold pyNext
 refine wpAny_bind (wpAny_attempt (wpAny_callSpecial?_slot (name := Str.ofString "__next__") hT F.slot_zip_next (wpAny_call_entry F.slot_zip_next hT F.entry_zip_next ?_ (F.args_zip_next_1 _))))
 show wpAny _ _ (field (.ref z) 2 >>= _) _ _ _; refine wpAny_bind (wpAny_field hz rfl (x := .bool false) rfl ?_)
 show wpAny _ _ (field (.ref z) 3 >>= _) _ _ _; refine wpAny_bind (wpAny_field hz rfl (x := .ref TI) rfl (wpAny_bind (wpAny_seqItems hTI rfl ?_)))
 show wpAny _ _ (Builtin.SmallTypes.ownedTupleIsFree (.ref z) >>= _) _ _ _; refine wpAny_bind ?_; unfold Builtin.SmallTypes.ownedTupleIsFree
 refine wpAny_bind (wpAny_field hz rfl (x := .none) rfl (wpAny_pure ?_)); simp only [if_true]
 refine wpAny_bind (wpAny_rule (wpAny_bind (wpAny_field hz rfl (x := .ref TO) rfl (wpAny_bind (wpAny_setField_rec hz (by simp) fun u1 z1 b1 => ?_)))))
 replace z1 : IsZip u1 z TI TO .ellipsis := z1
 refine wpAny_bind ?_; simp only [List.zipIdx_cons, List.zipIdx_nil, List.forIn_cons, List.forIn_nil]
 refine wpAny_bind (wpAny_bind (wpAny_onRaise ?_)); show wpAny _ _ (Builtin.SmallTypes.nextOf (.ref i1) >>= _) _ _ _
 refine wpAny_bind (ads hh (j1.extBut b1.extBut P.i1z) (t1.extBut b1.extBut P.l1z) hx fun u2 e b2 he => ?_)
 obtain ⟨oe, h1, h2⟩ := he
 have z2 : IsZip u2 z TI TO .ellipsis := b2 _ _ P.i1z.symm z1
 have ne : e ≠ z := fun x => by subst x; rw [z2] at h1; cases h1; simp at h2
 refine wpAny_setField_rec z2 (by simp) fun u3 _ b3 => ?_
 refine wpAny_bind (wpAny_isInstance (T := "StopIteration") (b := true) ⟨oe, b3.extBut _ _ ne h1, h2⟩ isSubtype_stop ?_)
 exact wpAny_pure (q _ fun b o n1 _ n3 _ x => b3.extBut _ _ n1 (b2 _ _ n3 (b1.extBut _ _ n1 x)))
abbrev zt1 (h : Heap) (l1 : Addr) : Heap := h.push { cls := .type "tuple_iterator", data := .fields #[.ref l1, .int 0 0] }
abbrev zt2 (h : Heap) (l1 l2 : Addr) : Heap := (zt1 h l1).push { cls := .type "tuple_iterator", data := .fields #[.ref l2, .int 0 0] }
abbrev zt3 (h : Heap) (l1 l2 : Addr) : Heap := (zt2 h l1 l2).push { cls := .type "tuple", data := .seq #[.ref h.objs.size, .ref (zt1 h l1).objs.size] }
abbrev zt4 (h : Heap) (l1 l2 : Addr) : Heap := (zt3 h l1 l2).push { cls := .type "tuple", data := .seq #[.none, .none] }
abbrev zt5 (h : Heap) (l1 l2 : Addr) : Heap := (zt4 h l1 l2).push { cls := .type "zip", data := .fields #[.none, .bool false, .bool false, .ref (zt2 h l1 l2).objs.size, .ref (zt3 h l1 l2).objs.size] }
theorem adv (l1 l2 : Addr) (xs ys : Array Value) : Meets (Builtin.«zip.__new__» ⟨[.type "zip", .ref l1, .ref l2], []⟩) (fun _ R s => s.heap.IsTuple l1 xs ∧ s.heap.IsTuple l2 ys ∧ R (.ok (.ret (.ref (zt4 s.heap l1 l2).objs.size))) { s with heap := zt5 s.heap l1 l2 }) :=
 .of_wp fun prog w A R s h => by
  obtain ⟨hp, gg, dd, tk, os⟩ := s; obtain ⟨h1, h2, h⟩ := h
  have y1 := sub_zip
  have y2 : Heap.IsTuple (Shared.heap ⟨hp, gg, dd, tk, os⟩) l1 xs := h1
  have y3 : Heap.IsTuple (Shared.heap ⟨hp.push { cls := .type "tuple_iterator", data := .fields #[.ref l1, .int 0 0] }, gg, dd, tk, os⟩) l2 ys := Heap.IsTuple.push h2 _
  wp_walk using wpAny_pyIter_tuple y2, wpAny_pyIter_tuple y3
  exact ⟨_, rfl, h⟩
theorem adw (t1 : s.heap.IsTuple l1 xs) (t2 : s.heap.IsTuple l2 ys)
 (h : ∀ h', Ks l1 l2 (s.heap.objs.size + 4) (s.heap.objs.size + 2) (s.heap.objs.size + 3) s.heap.objs.size (s.heap.objs.size + 1) 0 h' → (∀ b o, s.heap.get? b = some o → h'.get? b = some o) → Q (.ref (s.heap.objs.size + 4)) { s with heap := h' }) : wpAny (model prog w) A (call (.type "zip") [.ref l1, .ref l2]) Q E s := by
 refine callType_new F.called_zip (by decide) (F.typeCall_zip_2 _ _) (F.newCall_zip_2 _ _) (fun obj => F.args_object_init_3 obj _ _) F.entry_zip_new (adv l1 l2 xs ys) ⟨t1, t2, ?_⟩
 have n1 : (zt1 s.heap l1).objs.size = s.heap.objs.size + 1 := Heap.size_push ..
 have n2 : (zt2 s.heap l1 l2).objs.size = s.heap.objs.size + 2 := by rw [Heap.size_push, n1]
 have n3 : (zt3 s.heap l1 l2).objs.size = s.heap.objs.size + 3 := by rw [Heap.size_push, n2]
 have n4 : (zt4 s.heap l1 l2).objs.size = s.heap.objs.size + 4 := by rw [Heap.size_push, n3]
 have a5 : (zt5 s.heap l1 l2).get? (zt4 s.heap l1 l2).objs.size = some _ := Heap.get?_push_size _ rfl
 have a4 : (zt5 s.heap l1 l2).get? (zt3 s.heap l1 l2).objs.size = some _ := Heap.get?_push_of_some _ (Heap.get?_push_size _ rfl)
 have a3 : (zt5 s.heap l1 l2).get? (zt2 s.heap l1 l2).objs.size = some _ := Heap.get?_push_of_some _ (Heap.get?_push_of_some _ (Heap.get?_push_size _ rfl))
 have a2 : (zt5 s.heap l1 l2).get? (zt1 s.heap l1).objs.size = some _ := Heap.get?_push_of_some _ (Heap.get?_push_of_some _ (Heap.get?_push_of_some _ (Heap.get?_push_size _ rfl)))
 have a1 : (zt5 s.heap l1 l2).get? s.heap.objs.size = some _ := Heap.get?_push_of_some _ (Heap.get?_push_of_some _ (Heap.get?_push_of_some _ (Heap.get?_push_of_some _ (Heap.get?_push_size _ rfl))))
 show _ ∧ _
 rw [n2, n3, n4] at a5
 rw [n1, n2] at a3
 rw [n3] at a4
 rw [n1] at a2
 rw [n4]
 exact ⟨⟨_, a5, rfl⟩, h _ ⟨a5, a3, ⟨_, _, a4⟩, ⟨_, a1, rfl, rfl⟩, ⟨_, a2, rfl, rfl⟩⟩ fun b o x => Heap.get?_push_of_some _ (Heap.get?_push_of_some _ (Heap.get?_push_of_some _ (Heap.get?_push_of_some _ (Heap.get?_push_of_some _ x))))⟩
end
variable {g : G} {X : Cx} {pos apos cpos : Pos} {F : Nat}
def Nm (K : W.Frag) (a b : Addr) : It :=
 ⟨fun i H => ∃ xs ys x y, SqT K H a xs ∧ SqT K H b ys ∧ xs[i]? = some x ∧ ys[i]? = some y, fun i H x H' => ∃ c v w, x = .ref c ∧ H c = none ∧ H' = upd H c (.tup [v, w]) ∧ (∀ xs, SqT K H a xs → xs[i]? = some v) ∧ ∀ ys, SqT K H b ys → ys[i]? = some w, fun i H => ∃ xs, SqT K H a xs ∧ xs.length ≤ i⟩
theorem adx {P : Program} {w : World} {K : W.Frag} {elts : List Expr} {x1} {pt : Pos} {l1 l2 z TI TO i1 i2 : Addr} (D : ZipApart z TI TO i1 i2 l1 l2) : Turn P w K (.Tuple elts x1 pt) (Nm K l1 l2) [z, TI, TO, i1, i2] z (Ks l1 l2 z TI TO i1 i2) where
 mem := by simp
 obj := fun i h st b hb => by
  obtain ⟨hz, hTI, ⟨a0, b0, hTO⟩, ⟨o1, h1, c1, d1⟩, ⟨o2, h2, c2, d2⟩⟩ := st
  simp only [List.mem_cons, List.not_mem_nil, or_false] at hb
  rcases hb with rfl | rfl | rfl | rfl | rfl
  · exact ⟨_, hz, fun v z => by cases z⟩
  · exact ⟨_, hTI, fun v z => by cases z⟩
  · exact ⟨_, hTO, fun v z => by cases z⟩
  · exact ⟨o1, h1, fun v z => by rw [d1] at z; cases z⟩
  · exact ⟨o2, h2, fun v z => by rw [d2] at z; cases z⟩
 keep := fun i h h' st k => by
  obtain ⟨hz, hTI, ⟨a0, b0, hTO⟩, h1, h2⟩ := st
  exact ⟨k z (by simp) _ hz, k TI (by simp) _ hTI, ⟨a0, b0, k TO (by simp) _ hTO⟩, h1.at fun o q => k i1 (by simp) o q, h2.at fun o q => k i2 (by simp) o q⟩
 item := by
  intro X hP hw hK hc i pins s sg H E I hf st hg
  subst hP hw hK
  obtain ⟨xs, ys, x, y, hq1, hq2, hx, hy⟩ := hg
  obtain ⟨its1, rv1, p1, hz1⟩ := I.tuple hq1
  obtain ⟨its2, rv2, p2, hz2⟩ := I.tuple hq2
  obtain ⟨u1, hu1, ru1⟩ := rv1.get hx
  obtain ⟨u2, hu2, ru2⟩ := rv2.get hy
  refine adt D st p1 p2 (c := u1) (d := u2) (by simpa using hu1) (by simpa using hu2) fun h' hz' hTI' hTO' h1' h2' hT hsz hk => ?_
  obtain ⟨hz, hTI, ⟨a0, b0, hTO⟩, h1, h2⟩ := st
  refine ⟨_, rfl, wpAny_letOwnedTupleGo_zip hz' fun h3 hz3 hs3 => ?_⟩
  have hlt : ∀ b ∈ [z, TI, TO, i1, i2], b < s.heap.objs.size := fun b hb => by
   simp only [List.mem_cons, List.not_mem_nil, or_false] at hb
   rcases hb with rfl | rfl | rfl | rfl | rfl
   · exact Heap.lt_size hz
   · exact Heap.lt_size hTI
   · exact Heap.lt_size hTO
   · obtain ⟨o, q, _⟩ := h1; exact Heap.lt_size q
   · obtain ⟨o, q, _⟩ := h2; exact Heap.lt_size q
  have hne : ∀ b ∈ [z, TI, TO, i1, i2], b ≠ s.heap.objs.size := fun b hb => Nat.ne_of_lt (hlt b hb)
  have hn : H s.heap.objs.size = none := I.hok.fresh (Nat.le_refl _)
  have I1 := I.laid (a := s.heap.objs.size) (o := .tup [x, y]) (h' := s.heap.push { cls := .type "tuple", data := .seq #[u1, u2] }) (t' := s.toks) (fun b u e => Heap.get?_push_of_some _ e) (Nat.le_refl _)
   ⟨by rw [sizeLine_eq]; simp, [u1, u2], .cons ru1 (.cons ru2 .nil), ⟨_, Heap.get?_push_size _ rfl, rfl, _, rfl⟩⟩
  have hf1 : ∀ b ∈ [z, TI, TO, i1, i2], Cv X pins (upd H s.heap.objs.size (.tup [x, y])) b := fun b hb => ⟨by rw [Bf (hne b hb)]; exact (hf b hb).1, (hf b hb).2⟩
  have I2 := su (t' := s.toks) (h' := h3) I1 hf1 fun b o hb q => by
   have hbz : b ≠ z := fun e => hb (by simp [e])
   by_cases hbs : b = s.heap.objs.size
   · subst hbs
     rw [Heap.get?_push_size _ rfl] at q
     cases q
     exact (hs3.2 _ hbz).trans hT
   · have q' : s.heap.get? b = some o := (Heap.get?_push_cases q).elim (fun e => absurd e.1 hbs) id
     exact (hs3.2 _ hbz).trans (hk b o hbz (fun e => hb (by simp [e])) (fun e => hb (by simp [e])) (fun e => hb (by simp [e])) q')
  refine ⟨.ref s.heap.objs.size, _, I2, rfl, ⟨_, x, y, rfl, hn, rfl, fun zs hq => by rw [I.tuple_inj hq hq1]; exact hx, fun zs hq => by rw [I.tuple_inj hq hq2]; exact hy⟩, ⟨hz3, (hs3.2 _ D.TIz).trans hTI', ⟨_, _, (hs3.2 _ D.TOz).trans hTO'⟩, h1'.at fun o q => (hs3.2 _ D.i1z).trans q, h2'.at fun o q => (hs3.2 _ D.i2z).trans q⟩, fun b hb => (hf1 b hb).1⟩
 done := by
  intro X hP hw hK hc i pins s sg H E I hf st hg
  subst hP hw hK
  obtain ⟨xs, hq1, hx⟩ := hg
  obtain ⟨its1, rv1, p1, hz1⟩ := I.tuple hq1
  have hl := rv1.length
  exact adu (I.ok.hd hc) D st p1 (by simp; omega) fun h' hk => ⟨rfl, su (t' := s.toks) I hf fun b o hb q => hk b o (fun e => hb (by simp [e])) (fun e => hb (by simp [e])) (fun e => hb (by simp [e])) (fun e => hb (by simp [e])) q⟩
 self := fun _ i s Q E st h => wpAny_pyIter_zip st.1 h
def ady (K : W.Frag) (ta : TA) : TI := fun sg H R => ta sg H fun vs H1 => ∃ a b, vs = [.ref a, .ref b] ∧ (∃ xs, SqT K H1 a xs) ∧ (∃ ys, SqT K H1 b ys) ∧ R (Nm K a b) H1
theorem adz {elts : List Expr} {x1} {pt p pos : Pos} (hg : Gl X "zip") (hm : X.mg "zip" = none) (ha : PA X [l, m] ta) (hs : starEach [l, m] X.env = [(false, eval l X.env), (false, eval m X.env)] := by rfl) (hs2 : starEach [m] X.env = [(false, eval m X.env)] := by rfl) : PI X (.Tuple elts x1 pt) (.Call (.Name "zip" p) [l, m] [] pos) (ady X.K ta) := by
 intro pins s sg H R I h
 refine Call_ (gz I hg hm adb (PyProof.Rows.callWith_type1 (thn (ha pos pins s sg H _ I h) fun us s1 ⟨vs, H1, I1, r1, q1⟩ => ?_) (by rw [hs, hs2]) (by rw [hs2]; rfl)))
 obtain ⟨a, b, e, ⟨xs, hq1⟩, ⟨ys, hq2⟩, q⟩ := q1
 subst e
 cases r1 with
 | cons r rr =>
  cases rr with
  | cons r' rr =>
  cases rr
  cases r
  cases r'
  obtain ⟨its1, rv1, p1, hz1⟩ := I1.tuple hq1
  obtain ⟨its2, rv2, p2, hz2⟩ := I1.tuple hq2
  have a1 : a < s1.heap.objs.size := by obtain ⟨o, q, _⟩ := p1; exact Heap.lt_size q
  have a2 : b < s1.heap.objs.size := by obtain ⟨o, q, _⟩ := p2; exact Heap.lt_size q
  refine adw p1 p2 fun h' hst hk => wpAny_pyIter_zip hst.1 ?_
  refine ⟨_, [s1.heap.objs.size + 4, s1.heap.objs.size + 2, s1.heap.objs.size + 3, s1.heap.objs.size, s1.heap.objs.size + 1], _, _, H1, rfl, I1.kept (t' := s1.toks) hk, adx (zipApart_new a1 a2), hst, fun c hc => ?_, q⟩
  have hc : s1.heap.objs.size ≤ c := by
   simp only [List.mem_cons, List.not_mem_nil, or_false] at hc
   rcases hc with e | e | e | e | e <;> rw [e] <;> first | exact Nat.le_add_right _ _ | exact Nat.le_refl _
  exact I1.fpOk hc (I1.hok.fresh hc)
theorem aea {t1 t2 : List Nat} {o1 o2 : Bool} {elts : List Expr} {x1} {pt p pos2 : Pos} {l m : Expr} {body : List Stmt} {x' : Ss} {l' m' : E} (hK : X.K = g.K) (hp : PassesOwn (model X.prog X.w) X.A X.env X.xe) (hc : X.calm = true) (hg : Gl X "zip") (hm : X.mg "zip" = none) (ha : Sd g X l l') (hb : Sd g X m m') (ht : PG X (.Tuple elts x1 pt) (tgZ g.K t1 o1 t2 o2)) (hx : De g X F body x')
 (he : starEach [l, m] X.env = [(false, eval l X.env), (false, eval m X.env)] := by rfl) (he2 : starEach [m] X.env = [(false, eval m X.env)] := by rfl) (hs : ∀ x, foldedSetIterable (.Call (.Name "zip" p) [l, m] [] pos) X.env x = pure x := by intro _; rfl) : SdS g X F (.For (.Tuple elts x1 pt) (.Call (.Name "zip" p) [l, m] [] pos) body [] pos2) (.forZT t1 o1 t2 o2 l' m' x') :=
 Ct (ka hp hc (adz hg hm (aa ha (aa hb ae he2) (by rw [he, he2])) he he2) ht hx hs) fun D sg H q => by
 obtain ⟨rho, st, env, s, n, q⟩ := q
 simp only [Ak] at q
 refine qw s n q fun ds st1 vs H1 r1 hl k1 s1 n1 rps q1 => ?_
 split at q1
 · rename_i xs ys
   simp only [G.RepL, RepL] at rps
   obtain ⟨v1, w1, rfl, rp1, v2, w2, rfl, rp2, rfl⟩ := rps
   split at q1
   · rename_i hle
     obtain ⟨a, vs, rfl, sq1, rl1⟩ := bz.mp rp1
     obtain ⟨b, ws, rfl, sq2, rl2⟩ := bz.mp rp2
     refine ⟨a, b, rfl, ⟨vs, by rw [hK]; exact sq1⟩, ⟨ws, by rw [hK]; exact sq2⟩, ?_⟩
     rw [hK]
     refine ada (J := Nm g.K a b) (ws := He xs ys) (sf := fun d env => ip t1 o1 t2 o2 d env) (fun rho st H kk s hst => ?_) (fun rho H Q d v env env' sg e r n h => ade e r n h) s1 n1 (RQ.mono (.refl _ _) q1 fun f st p => Bc.mono k1 p)
     have sq3 := kk.tup a vs sq1
     have sq4 := kk.tup b ws sq2
     have rl3 := rl1.mono kk
     have rl4 := rl2.mono kk
     refine ⟨⟨vs, sq3, by rw [adf hle, rl3.length]; exact Nat.le_refl _⟩, fun k d hd => ?_⟩
     simp only [He, List.getElem?_zipWith] at hd
     cases hx1 : xs[k]? with
     | none => rw [hx1] at hd; simp at hd
     | some x =>
      cases hy1 : ys[k]? with
      | none => rw [hx1, hy1] at hd; simp at hd
      | some y =>
       rw [hx1, hy1] at hd
       simp at hd
       subst hd
       obtain ⟨v, hv, rv⟩ := rl3.get hx1
       obtain ⟨w, hw, rw1⟩ := rl4.get hy1
       refine ⟨⟨vs, ws, v, w, sq3, sq4, hv, hw⟩, fun x0 H' yy => ?_⟩
       obtain ⟨c, v', w', rfl, hcn, rfl, z1, z2⟩ := yy
       have z1 := z1 _ sq3
       have z2 := z2 _ sq4
       rw [hv] at z1; cases z1
       rw [hw] at z2; cases z2
       have eS := Gh hcn (.tup [v, w])
       have k0 : g.Keep rho H rho _ := Bp.keep eS rho
       exact ⟨eS, bz.mpr ⟨c, _, rfl, SqT.of Cf, by simp only [G.RepL, RepL]; exact ⟨_, _, rfl, rv.mono k0, _, _, rfl, rw1.mono k0, rfl⟩⟩⟩
   · exact q1.elim
 · exact q1.elim
variable {g : G} {X : Cx} {pos apos cpos : Pos} {F : Nat}
end DD
namespace My
open PySem PySem.Spec L2 DD
open PyProof.Rows hiding St
noncomputable def top (i : Nat) : Stmt := PySem.Challenge.pw_partproof_k81_told_and_taken_back.main.body.getD i (.Pass ⟨0, 0, 0, 0⟩)
noncomputable def aeb : Stmt → List Stmt
 | .ClassDef _ _ _ b _ _ _ _ _ _ _ => b
 | _ => []
noncomputable def br (i j : Nat) : Stmt := (aeb (top i)).getD j (.Pass ⟨0, 0, 0, 0⟩)
abbrev Lv (s : Stmt) (x : String) : Prop := (Aq s).names.lookup (Str.ofString x) = some NameKind.local
abbrev fO (x q : Str) (s : Stmt) := W.fnOf x q (jk s) (Gz s) (Aq s)
theorem ku : Passes (CXd P w) X (fun _ _ _ => False) := fun _ _ _ _ _ _ _ ⟨_, _, _, _, _, _, _, h⟩ => h.elim
abbrev Hm : Stmt := top 8
abbrev ft : Stmt := top 9
abbrev Gm : Stmt := top 10
abbrev Hn : Stmt := top 14
abbrev Dz : Stmt := top 15
abbrev dt : Stmt := top 16
abbrev Hq : Stmt := top 17
abbrev Ft : Stmt := top 18
abbrev fu : Stmt := top 19
abbrev Fu : Stmt := top 20
abbrev Dt : Stmt := top 21
abbrev Fv : Stmt := top 22
abbrev fw : Stmt := top 23
abbrev Gn : Stmt := top 27
abbrev eu : Stmt := top 28
abbrev Ew : Stmt := top 29
abbrev Ey : Stmt := top 30
abbrev gp : Stmt := br 32 0
abbrev Gp : Stmt := br 32 1
abbrev gq : Stmt := br 32 2
abbrev Hr : Stmt := br 32 3
abbrev Hs : Stmt := top 39
abbrev Ht : Stmt := top 40
abbrev Hu : Stmt := top 41
abbrev Hv : Stmt := top 42
abbrev Hw : Stmt := top 43
abbrev Hx : Stmt := top 44
abbrev Ea : Stmt := top 45
abbrev Hy : Stmt := top 46
abbrev Hz : Stmt := top 47
abbrev ia : Stmt := top 48
abbrev Ia : Stmt := top 49
abbrev Dp : Stmt := br 50 0
abbrev Gq : Stmt := br 50 6
abbrev gr : Stmt := br 50 8
abbrev Eb : Stmt := top 53
abbrev ib : Stmt := top 54
abbrev Ib : Stmt := top 55
abbrev Gr : Stmt := top 56
abbrev Ec : Stmt := top 57
abbrev Fw : Stmt := top 58
abbrev Ez : Stmt := top 59
abbrev fx : Stmt := top 60
abbrev fb : Stmt := top 61
abbrev Fb : Stmt := top 62
abbrev Cd : Stmt := top 63
abbrev ci (i : Int) : E := .cst (.int i)
abbrev cs (x : Str) : E := .cst (.str x)
abbrev o1 (e : E) : Es := .cons e .nil
abbrev o2 (s : S) : Ss := .cons s .nil
noncomputable def aec : Ss := (o2 (.whileS (.cst (.bl true)) (.cons .pass .nil)))
noncomputable def Sz : Ss := (o2 (.ret (.andE (.isi (.var 0) (.b "int")) (.notE (.isi (.var 0) (.b "bool"))))))
noncomputable def Tc : Ss := (.cons (.ifS (.orE (.notE (.isi (.var 0) (.b "tuple"))) (.cm .ne (.bt .lenB (o1 (.var 0))) (ci 2))) (o2 (.ret (.cst (.bl false)))) .nil) (.cons (.unp [1, 2] (.var 0)) (.cons (.ifS (.orE (.notE (.call 1 (o1 (.var 1)) [])) (.notE (.call 1 (o1 (.var 2)) []))) (o2 (.ret (.cst (.bl false)))) .nil) (o2 (.ret (.andE (.cm .ge (.var 2) (ci 1)) (.cm .eq (.call 3 (.cons (.var 1) (o1 (.var 2))) []) (ci 1))))))))
noncomputable def Te : Ss := (.cons (.par 0 1 (.bt .absB (o1 (.var 0))) (.bt .absB (o1 (.var 1)))) (.cons (.whileS (.cm .ne (.var 1) (ci 0)) (o2 (.par 0 1 (.var 1) (.op .mod (.var 0) (.var 1))))) (o2 (.ret (.var 0)))))
noncomputable def tf : Ss := (.cons (.ifS (.orE (.notE (.isi (.var 0) (.b "tuple"))) (.orE (.notE (.var 0)) (.notE (.isi (.ix (.var 0) (ci 0)) (.b "str"))))) (o2 (.ret (.cst .non))) .nil) (o2 (.ret (.ix (.var 0) (ci 0)))))
noncomputable def Gs : Ss := (.cons (.set 3 (.call 4 (o1 (.var 1)) [])) (.cons (.ifS (.orE (.cm .lt (.var 2) (ci 1)) (.orE (.tabIn true ["number", "unknown", "weigh", "plus", "call", "read", "put"] (.var 3)) (.cm .ne (.bt .lenB (o1 (.var 1))) (.tabV [("number", (.int 2)), ("unknown", (.int 2)), ("weigh", (.int 3)), ("plus", (.int 2)), ("call", (.int 3)), ("read", (.int 3)), ("put", (.int 4))] (.var 3))))) (o2 (.raiseS 2)) .nil) (.cons (.set 4 (.tabF [("number", 7), ("unknown", 8), ("weigh", 9), ("plus", 10), ("call", 11), ("read", 12), ("put", 13)] (.var 3))) (o2 (.ret (.callV [7, 8, 9, 10, 11, 12, 13] (.var 4) (.cons (.var 0) (.cons (.var 1) (o1 (.op .sub (.var 2) (ci 1)))))))))))
noncomputable def Ku : Ss := (.cons (.ifS (.orE (.notE (.isi (.var 1) (.b "tuple"))) (.cm .ne (.bt .lenB (o1 (.var 1))) (.bt .lenB (o1 (.var 2))))) (o2 (.raiseS 2)) .nil) (o2 (.forZT [4] true [5] true (.var 1) (.var 2) (o2 (.ifS (.cm .ne (.call 5 (.cons (.var 0) (.cons (.var 4) (o1 (.var 3)))) []) (.var 5)) (o2 (.raiseS 2)) .nil)))))
noncomputable def Kv : Ss := (.cons (.ifS (.notE (.call 2 (o1 (.ix (.var 1) (ci 1))) [])) (o2 (.raiseS 2)) .nil) (o2 (.ret (cs "num"))))
noncomputable def iz : Ss := (.cons (.set 3 (.br 6 40 "kind" (.var 0) (o1 (.ix (.var 1) (ci 1))))) (.cons (.ifS (.cm .isN (.var 3) (.cst .non)) (o2 (.raiseS 2)) .nil) (o2 (.ret (.var 3)))))
noncomputable def Kx : Ss := (.cons (.ifS (.notE (.call 2 (o1 (.ix (.var 1) (ci 1))) [])) (o2 (.raiseS 2)) .nil) (.cons (.ex (.call 6 (.cons (.var 0) (.cons (.sl 1 (.var 1) (o1 (ci 2))) (.cons (.tupE (o1 (cs "num"))) (o1 (.var 2))))) [])) (o2 (.ret (cs "num")))))
noncomputable def ky : Ss := (.cons (.ifS (.notE (.isi (.ix (.var 1) (ci 1)) (.b "tuple"))) (o2 (.raiseS 2)) .nil) (.cons (.ex (.call 6 (.cons (.var 0) (.cons (.ix (.var 1) (ci 1)) (.cons (.op .mul (.tupE (o1 (cs "num"))) (.bt .lenB (o1 (.ix (.var 1) (ci 1))))) (o1 (.var 2))))) [])) (o2 (.ret (cs "num")))))
noncomputable def Ky : Ss := (.cons (.set 3 (.br 6 42 "function" (.var 0) (o1 (.ix (.var 1) (ci 1))))) (.cons (.ifS (.cm .isN (.var 3) (.cst .non)) (o2 (.raiseS 2)) .nil) (.cons (.unp [4, 5] (.var 3)) (.cons (.ex (.call 6 (.cons (.var 0) (.cons (.ix (.var 1) (ci 2)) (.cons (.var 4) (o1 (.var 2))))) [])) (o2 (.ret (.var 5)))))))
noncomputable def kz : Ss := (.cons (.ex (.call 6 (.cons (.var 0) (.cons (.sl 1 (.var 1) (o1 (ci 1))) (.cons (.tupE (.cons (cs "array") (o1 (cs "num")))) (o1 (.var 2))))) [])) (o2 (.ret (cs "num"))))
noncomputable def Kz : Ss := (.cons (.ex (.call 6 (.cons (.var 0) (.cons (.sl 1 (.var 1) (o1 (ci 1))) (.cons (.tupE (.cons (cs "array") (.cons (cs "num") (o1 (cs "num"))))) (o1 (.var 2))))) [])) (o2 (.ret (cs "array"))))
noncomputable def gu : Ss := (o2 (.tryR (o2 (.ex (.call 15 (.cons (.var 0) (.cons (.var 1) (o1 (ci 12)))) []))) 2 3))
noncomputable def fc : Ss := (.cons (.set 3 (.call 4 (o1 (.var 1)) [])) (.cons (.ifS (.orE (.cm .lt (.var 2) (ci 1)) (.orE (.tabIn true ["atmost", "below", "same", "not", "and", "or"] (.var 3)) (.cm .ne (.bt .lenB (o1 (.var 1))) (.tabV [("atmost", (.int 3)), ("below", (.int 3)), ("same", (.int 3)), ("not", (.int 2)), ("and", (.int 2)), ("or", (.int 2))] (.var 3))))) (o2 (.raiseS 3)) .nil) (o2 (.ifS (.cm .eq (.var 3) (cs "not")) (o2 (.ex (.call 15 (.cons (.var 0) (.cons (.ix (.var 1) (ci 1)) (o1 (.op .sub (.var 2) (ci 1))))) []))) (o2 (.ifS (.cm .inL (.var 3) (.tupE (.cons (cs "and") (o1 (cs "or"))))) (o2 (.ex (.call 16 (.cons (.var 0) (.cons (.ix (.var 1) (ci 1)) (o1 (.op .sub (.var 2) (ci 1))))) []))) (o2 (.ex (.call 17 (.cons (.var 0) (.cons (.var 1) (o1 (.op .sub (.var 2) (ci 1))))) [])))))))))
noncomputable def Gu : Ss := (.cons (.ifS (.notE (.isi (.var 1) (.b "tuple"))) (o2 (.raiseS 3)) .nil) (o2 (.forS [3] true true (.var 1) (o2 (.ex (.call 15 (.cons (.var 0) (.cons (.var 3) (o1 (.var 2)))) []))))))
noncomputable def gv : Ss := (.cons (.set 3 (.call 5 (.cons (.var 0) (.cons (.ix (.var 1) (ci 1)) (o1 (.var 2)))) [])) (.cons (.ifS (.cm .ne (.call 5 (.cons (.var 0) (.cons (.ix (.var 1) (ci 2)) (o1 (.var 2)))) []) (.var 3)) (o2 (.raiseS 3)) .nil) (o2 (.ifS (.andE (.cm .ne (.var 3) (cs "num")) (.cm .ne (.tupE (.cons (.var 3) (o1 (.ix (.var 1) (ci 0))))) (.tupE (.cons (cs "thing") (o1 (cs "same")))))) (o2 (.raiseS 3)) .nil))))
noncomputable def Tf : Ss := (.cons (.setf 5 (.var 0) "names" (.var 1)) (.cons (.setf 5 (.var 0) "statements" (.lstE .nil)) (o2 (.setf 5 (.var 0) "known" (.cst .non)))))
noncomputable def Iz : Ss := (.cons (.ex (.call 14 (.cons (.fld 5 (.var 0) "names") (o1 (.var 1))) [])) (.cons (.ex (.mt .append (.fld 5 (.var 0) "statements") (o1 (.var 1)))) (o2 (.setf 5 (.var 0) "known" (.cst .non)))))
noncomputable def ja : Ss := (.cons (.ifS (.notE (.chn .le .le (ci 0) (.var 1) (.bt .lenB (o1 (.fld 5 (.var 0) "statements"))))) (o2 (.raiseS 4)) .nil) (.cons (.setf 5 (.var 0) "statements" (.sl 2 (.fld 5 (.var 0) "statements") (o1 (.op .sub (.bt .lenB (o1 (.fld 5 (.var 0) "statements"))) (.var 1))))) (o2 (.setf 5 (.var 0) "known" (.cst .non)))))
noncomputable def la : Ss := (o2 (.ret (.bt .listB (o1 (.fld 5 (.var 0) "statements")))))
noncomputable def aed : Ss := (o2 (.ex (.call 0 (o1 (ci 0)) [])))
noncomputable def Tg : Ss := (.cons (.ifS (.orE (.notE (.isi (.var 0) (.b "str"))) (.notE (.chn .le .le (ci 1) (.bt .lenB (o1 (.var 0))) (ci 8)))) (o2 (.ret (.cst (.bl false)))) .nil) (o2 (.ret (.bt .allB (o1 (.comp 3 true 1 [0] [] (.var 0) .nil (.cm .inL (.var 0) (cs "abcdefghijklmnopqrstuvwxyz"))))))))
noncomputable def Th : Ss := (o2 (.ret (.andE (.isi (.var 0) (.b "tuple")) (.andE (.cm .eq (.bt .lenB (o1 (.var 0))) (ci 3)) (.call 23 (o1 (.ix (.var 0) (ci 0))) [])))))
noncomputable def Ti : Ss := (o2 (.ret (.andE (.isi (.var 0) (.b "str")) (.cm .inL (.var 0) (.tupE (.cons (cs "num") (o1 (cs "thing"))))))))
noncomputable def tj : Ss := (o2 (.ret (.andE (.isi (.var 0) (.b "list")) (.bt .allB (o1 (.comp 0 true 1 [0] [] (.var 0) .nil (.call 23 (o1 (.var 0)) [])))))))
noncomputable def Tj : Ss := (.cons (.ifS (.orE (.notE (.call 24 (o1 (.var 0)) [])) (.orE (.notE (.call 1 (o1 (.ix (.var 0) (ci 1))) [])) (.notE (.call 1 (o1 (.ix (.var 0) (ci 2))) [])))) (o2 (.ret (.cst (.bl false)))) .nil) (o2 (.ret (.chn .le .le (.ix (.var 0) (ci 1)) (.ix (.var 0) (ci 2)) (.op .add (.ix (.var 0) (ci 1)) (ci 60))))))
noncomputable def tm : Ss := (.cons (.ifS (.orE (.notE (.call 24 (o1 (.var 0)) [])) (.orE (.notE (.isi (.ix (.var 0) (ci 1)) (.b "tuple"))) (.notE (.call 25 (o1 (.ix (.var 0) (ci 2))) [])))) (o2 (.ret (.cst (.bl false)))) .nil) (o2 (.ret (.andE (.chn .le .le (ci 1) (.bt .lenB (o1 (.ix (.var 0) (ci 1)))) (ci 3)) (.bt .allB (o1 (.comp 1 true 1 [0] [] (.ix (.var 0) (ci 1)) .nil (.call 25 (o1 (.var 0)) []))))))))
noncomputable def Tn : Ss := (.cons (.ifS (.orE (.notE (.isi (.var 0) (.b "list"))) (.notE (.bt .allB (o1 (.comp 0 true 1 [0] [] (.var 0) .nil (.call 27 (o1 (.var 0)) [])))))) (o2 (.raiseS 1)) .nil) (.cons (.set 1 (ci 1)) (.cons (.forS [2, 3, 4] false false (.var 0) (o2 (.aug 1 .mul (.op .add (.op .sub (.var 4) (.var 3)) (ci 1))))) (o2 (.ifS (.cm .gt (.var 1) (ci 3600)) (o2 (.raiseS 1)) .nil)))))
noncomputable def To : Ss := (o2 (.ifS (.orE (.notE (.isi (.var 0) (.b "list"))) (.notE (.bt .allB (o1 (.comp 0 true 1 [0] [] (.var 0) .nil (.call 28 (o1 (.var 0)) [])))))) (o2 (.raiseS 1)) .nil))
noncomputable def Tp : Ss := (o2 (.ifS (.notE (.call 26 (o1 (.var 0)) [])) (o2 (.raiseS 1)) .nil))
noncomputable def tq : Ss := (o2 (.ret (.comp 0 true 1 [0] [] (.var 0) .nil (.ix (.var 0) (ci 0)))))
noncomputable def Tq : Ss := (o2 (.ifS (.cm .ne (.bt .lenSetB (o1 (.var 0))) (.bt .lenB (o1 (.var 0)))) (o2 (.raiseS 1)) .nil))
noncomputable def Ts : Ss := (.cons (.forS [6] true true (.tupE (.cons (.var 1) (.cons (.var 3) (o1 (.var 5))))) (o2 (.ex (.call 31 (o1 (.var 6)) [])))) (.cons (.ex (.call 29 (o1 (.var 2)) [])) (.cons (.ex (.call 30 (o1 (.var 4)) [])) (.cons (.ex (.call 33 (o1 (.op .add (.op .add (.op .add (.op .add (.var 1) (.call 32 (o1 (.var 2)) [])) (.var 3)) (.call 32 (o1 (.var 4)) [])) (.var 5))) [])) (.cons (.setf 6 (.var 0) "numbers" (.bt .listB (o1 (.var 1)))) (.cons (.setf 6 (.var 0) "wholes" (.bt .listB (o1 (.var 2)))) (.cons (.setf 6 (.var 0) "things" (.bt .listB (o1 (.var 3)))) (.cons (.setf 6 (.var 0) "functions" (.bt .listB (o1 (.var 4)))) (.cons (.setf 6 (.var 0) "arrays" (.bt .listB (o1 (.var 5)))) (.cons (.setf 6 (.var 0) "limits" (.dcomp 0 false 3 [0, 1, 2] [] (.var 2) .nil (.var 0) (.tupE (.cons (.var 1) (o1 (.var 2)))))) (.cons (.setf 6 (.var 0) "deeds" (.dcomp 0 false 3 [0, 1, 2] [] (.var 4) .nil (.var 0) (.tupE (.cons (.var 1) (o1 (.var 2)))))) (.cons (.setf 6 (.var 0) "unknowns" (.dcomp 0 true 1 [0] [] (.op .add (.var 1) (.call 32 (o1 (.var 2)) [])) .nil (.var 0) (cs "num"))) (.cons (.ex (.mt .upd (.fld 6 (.var 0) "unknowns") (o1 (.dcomp 0 true 1 [0] [] (.var 3) .nil (.var 0) (cs "thing"))))) (o2 (.ex (.mt .upd (.fld 6 (.var 0) "unknowns") (o1 (.dcomp 0 true 1 [0] [] (.var 5) .nil (.var 0) (cs "array")))))))))))))))))))
noncomputable def aee : Ss := (o2 (.ex (.call 0 (o1 (ci 1)) [])))
noncomputable def aef : Ss := (o2 (.ex (.call 0 (o1 (ci 2)) [])))
noncomputable def aeg : Ss := (o2 (.ex (.call 0 (o1 (ci 3)) [])))
noncomputable def aeh : Ss := (o2 (.ex (.call 0 (o1 (ci 4)) [])))
noncomputable def aei : Ss := (o2 (.ex (.call 0 (o1 (ci 5)) [])))
noncomputable def La : Ss := (o2 (.ret (.ifE (.isi (.var 1) (.b "str")) (.mt .get (.fld 6 (.var 0) "unknowns") (o1 (.var 1))) (.cst .non))))
noncomputable def aej : Ss := (o2 (.ex (.call 0 (o1 (ci 6)) [])))
noncomputable def lb : Ss := (o2 (.ret (.ifE (.isi (.var 1) (.b "str")) (.mt .get (.fld 6 (.var 0) "deeds") (o1 (.var 1))) (.cst .non))))
noncomputable def aek : Ss := (.cons (.ifS (.cm .lt (.var 1) (.bt .lenB (o1 (.var 0)))) (o2 (.ret (.ix (.var 0) (.var 1)))) .nil) (o2 (.ret (ci 0))))
noncomputable def Ja : Ss := (.cons (.set 2 (.lstE .nil)) (.cons (.set 3 (.op .fdiv (.var 0) (ci 2))) (.cons (.whileS (.andE (.cm .eq (.op .mod (.var 0) (ci 2)) (ci 0)) (.andE (.cm .gt (.var 3) (ci 0)) (.cm .lt (.bt .lenB (o1 (.var 2))) (.var 1)))) (.cons (.ex (.mt .append (.var 2) (o1 (.op .mod (.var 3) (.op .pow (ci 10) (ci 9)))))) (o2 (.set 3 (.op .fdiv (.var 3) (.op .pow (ci 10) (ci 9))))))) (.cons (.set 3 (.op .mod (.op .mul (.op .add (.op .fdiv (.var 0) (ci 2)) (ci 7919)) (ci 48271)) (ci 2147483647))) (.cons (.forR [4] (o1 (.var 1)) (.cons (.set 3 (.op .mod (.op .mul (.var 3) (.op .add (.op .add (.op .fdiv (.var 3) (ci 1009)) (ci 69621)) (.var 4))) (ci 2147483647))) (.cons (.ex (.mt .append (.var 2) (o1 (.var 3)))) (o2 (.set 3 (.op .add (.var 3) (ci 1))))))) (o2 (.ret (.sl 2 (.var 2) (o1 (.var 1))))))))))
noncomputable def tu : Ss := (.cons (.set 0 (.lstE (.cons (.tupE (.cons (cs "f") (.cons (.tupE (o1 (cs "num"))) (o1 (cs "num"))))) (.cons (.tupE (.cons (cs "g") (.cons (.tupE (o1 (cs "thing"))) (o1 (cs "thing"))))) (o1 (.tupE (.cons (cs "h") (.cons (.tupE (.cons (cs "thing") (o1 (cs "num")))) (o1 (cs "num")))))))))) (.cons (.ex (.mt .append (.var 0) (o1 (.tupE (.cons (cs "k") (.cons (.tupE (.cons (cs "num") (o1 (cs "num")))) (o1 (cs "num")))))))) (o2 (.ret (.mk 6 34 (.cons (.lstE (.cons (cs "x") (o1 (cs "y")))) (.cons (.lstE (o1 (.tupE (.cons (cs "n") (.cons (ci 0) (o1 (ci 3))))))) (.cons (.lstE (.cons (cs "a") (.cons (cs "b") (o1 (cs "c"))))) (.cons (.var 0) (o1 (.lstE (.cons (cs "p") (o1 (cs "q"))))))))))))))
noncomputable def Lb : Ss := (.cons (.ifS (.cm .eq (.op .mod (.var 0) (ci 4)) (ci 3)) (o2 (.ret (.tupE (.cons (cs "number") (o1 (.ix (.lstE (.cons (.tupE (.cons (.op .mod (.op .fdiv (.var 0) (ci 4)) (ci 5)) (o1 (ci 1)))) (.cons (.tupE (.cons (ci 1) (o1 (ci 2)))) (.cons (.tupE (.cons (.neg (ci 3)) (o1 (ci 1)))) (o1 (.tupE (.cons (ci 7) (o1 (ci 3))))))))) (.op .mod (.op .fdiv (.var 0) (ci 20)) (ci 4)))))))) .nil) (o2 (.ret (.tupE (.cons (cs "unknown") (o1 (.ix (.lstE (.cons (cs "x") (.cons (cs "y") (o1 (cs "n"))))) (.op .mod (.var 0) (ci 4)))))))))
noncomputable def Lc : Ss := (.cons (.set 1 (.tupE (.cons (cs "unknown") (o1 (.ix (.lstE (.cons (cs "a") (.cons (cs "b") (o1 (cs "c"))))) (.op .mod (.var 0) (ci 3))))))) (.cons (.ifS (.cm .eq (.op .mod (.op .fdiv (.var 0) (ci 3)) (ci 3)) (ci 2)) (o2 (.ret (.tupE (.cons (cs "call") (.cons (cs "g") (o1 (.tupE (o1 (.var 1))))))))) .nil) (o2 (.ret (.var 1)))))
noncomputable def Ld : Ss := (.cons (.set 2 (.call 46 (o1 (.ix (.var 0) (.op .add (.var 1) (ci 1)))) [])) (.cons (.set 3 (.op .mod (.ix (.var 0) (.var 1)) (ci 10))) (.cons (.set 4 (.tupE (.cons (cs "unknown") (o1 (.ix (.lstE (.cons (cs "p") (o1 (cs "q")))) (.op .mod (.op .fdiv (.ix (.var 0) (.var 1)) (ci 10)) (ci 2))))))) (.cons (.ifS (.cm .eq (.var 3) (ci 3)) (o2 (.ret (.tupE (.cons (cs "plus") (o1 (.tupE (.cons (.var 2) (o1 (.call 46 (o1 (.ix (.var 0) (.op .add (.var 1) (ci 2)))) []))))))))) .nil) (.cons (.ifS (.cm .eq (.var 3) (ci 4)) (o2 (.ret (.tupE (.cons (cs "weigh") (.cons (.ix (.lstE (.cons (.tupE (.cons (ci 2) (o1 (ci 1)))) (.cons (.tupE (.cons (.neg (ci 1)) (o1 (ci 1)))) (o1 (.tupE (.cons (ci 1) (o1 (ci 3)))))))) (.op .mod (.ix (.var 0) (.op .add (.var 1) (ci 2))) (ci 3))) (o1 (.var 2))))))) .nil) (.cons (.ifS (.cm .eq (.var 3) (ci 5)) (o2 (.ret (.tupE (.cons (cs "call") (.cons (cs "f") (o1 (.tupE (o1 (.var 2))))))))) .nil) (.cons (.ifS (.cm .eq (.var 3) (ci 6)) (o2 (.ret (.tupE (.cons (cs "read") (.cons (.var 4) (o1 (.var 2))))))) .nil) (.cons (.ifS (.cm .eq (.var 3) (ci 7)) (o2 (.ret (.tupE (.cons (cs "read") (.cons (.tupE (.cons (cs "put") (.cons (.var 4) (.cons (.call 46 (o1 (.ix (.var 0) (.op .add (.var 1) (ci 2)))) []) (o1 (.var 2)))))) (o1 (.call 46 (o1 (.op .fdiv (.ix (.var 0) (.op .add (.var 1) (ci 2))) (ci 99))) []))))))) .nil) (.cons (.ifS (.cm .eq (.var 3) (ci 8)) (o2 (.ret (.tupE (.cons (cs "call") (.cons (cs "h") (o1 (.tupE (.cons (.call 47 (o1 (.ix (.var 0) (.op .add (.var 1) (ci 2)))) []) (o1 (.var 2)))))))))) .nil) (.cons (.ifS (.cm .eq (.var 3) (ci 9)) (o2 (.ret (.tupE (.cons (cs "call") (.cons (cs "k") (o1 (.tupE (.cons (.var 2) (o1 (.call 46 (o1 (.ix (.var 0) (.op .add (.var 1) (ci 2)))) [])))))))))) .nil) (o2 (.ret (.var 2)))))))))))))
noncomputable def Le : Ss := (.cons (.set 2 (.op .mod (.ix (.var 0) (.var 1)) (ci 7))) (.cons (.ifS (.cm .gt (.var 2) (ci 4)) (o2 (.ret (.tupE (.cons (cs "same") (.cons (.call 47 (o1 (.ix (.var 0) (.op .add (.var 1) (ci 1)))) []) (o1 (.call 47 (o1 (.ix (.var 0) (.op .add (.var 1) (ci 4)))) []))))))) .nil) (o2 (.ret (.tupE (.cons (.ix (.lstE (.cons (cs "atmost") (.cons (cs "below") (.cons (cs "same") (.cons (cs "same") (o1 (cs "atmost"))))))) (.var 2)) (.cons (.call 48 (.cons (.var 0) (o1 (.op .add (.var 1) (ci 1)))) []) (o1 (.call 48 (.cons (.var 0) (o1 (.op .add (.var 1) (ci 4)))) [])))))))))
noncomputable def Lf : Ss := (.cons (.set 1 (.call 44 (.cons (.var 0) (o1 (ci 16))) [])) (.cons (.set 2 (.call 49 (.cons (.var 1) (o1 (ci 1))) [])) (.cons (.set 3 (.op .mod (.ix (.var 1) (ci 0)) (ci 6))) (.cons (.ifS (.cm .eq (.var 3) (ci 0)) (o2 (.ret (.tupE (.cons (cs "not") (o1 (.var 2)))))) .nil) (.cons (.ifS (.cm .eq (.var 3) (ci 1)) (o2 (.ret (.tupE (.cons (cs "or") (o1 (.tupE (.cons (.var 2) (o1 (.call 49 (.cons (.var 1) (o1 (ci 8))) []))))))))) .nil) (.cons (.ifS (.cm .eq (.var 3) (ci 2)) (o2 (.ret (.tupE (.cons (cs "or") (o1 (.tupE (.cons (.tupE (.cons (cs "not") (o1 (.var 2)))) (o1 (.call 49 (.cons (.var 1) (o1 (ci 8))) []))))))))) .nil) (.cons (.ifS (.andE (.cm .eq (.var 3) (ci 3)) (.cm .eq (.op .mod (.ix (.var 1) (ci 15)) (ci 3)) (ci 0))) (o2 (.ret (.tupE (.cons (cs "and") (o1 (.tupE (.cons (.var 2) (o1 (.tupE (.cons (cs "not") (o1 (.call 49 (.cons (.var 1) (o1 (ci 8))) [])))))))))))) .nil) (o2 (.ret (.var 2))))))))))
noncomputable def lg : Ss := (.cons (.set 1 (.tupE (.cons (cs "same") (.cons (.tupE (.cons (cs "unknown") (o1 (cs "x")))) (o1 (.tupE (.cons (cs "unknown") (o1 (cs "a"))))))))) (.cons (.set 2 (.lstE (.cons (.var 1) (.cons (.tupE (.cons (cs "not") (o1 (.var 1)))) (.cons (.tupE (.cons (cs "atmost") (o1 (.tupE (.cons (cs "unknown") (o1 (cs "x"))))))) (.cons (.tupE (.cons (cs "below") (.cons (.tupE (.cons (cs "unknown") (o1 (cs "z")))) (o1 (.tupE (.cons (cs "unknown") (o1 (cs "x")))))))) (.cons (ci 7) (o1 (.cst .non))))))))) (.cons (.set 2 (.op .add (.var 2) (.lstE (.cons (.tupE (.cons (cs "and") (o1 (.lstE (o1 (.tupE (.cons (cs "same") (.cons (.tupE (.cons (cs "unknown") (o1 (cs "a")))) (o1 (.tupE (.cons (cs "unknown") (o1 (cs "a"))))))))))))) (.cons (.tupE .nil) (.cons (cs "same") (.cons (.tupE (.cons (cs "xor") (o1 (.tupE .nil)))) (o1 (.tupE (.cons (cs "or") (o1 (.tupE (o1 (.cst .non)))))))))))))) (o2 (.ret (.ix (.var 2) (.op .mod (.var 0) (ci 11))))))))
noncomputable def jb : Ss := (.cons (.tryS (o2 (.set 2 (.br 5 19 "tell" (.var 0) (o1 (.var 1))))) 3 3 (o2 (.ret (.lstE (.cons (cs "bad") (o1 (.andE (.isi (.var 3) (.o 0)) (.notE (.isi (.var 3) (.o 4)))))))))) (o2 (.ret (.var 2))))
noncomputable def Jb : Ss := (.cons (.tryS (o2 (.set 2 (.br 5 20 "back" (.var 0) (o1 (.var 1))))) 4 3 (o2 (.ret (.lstE (.cons (cs "few") (o1 (.andE (.isi (.var 3) (.o 0)) (.notE (.isi (.var 3) (.o 3)))))))))) (o2 (.ret (.var 2))))
noncomputable def du : Ss := (.cons (.set 1 (.mk 5 18 (o1 (.call 45 .nil [])))) (.cons (.set 2 (.mk 5 18 (o1 (.call 45 .nil [])))) (.cons (.set 3 (.lstE .nil)) (.cons (.set 4 (.lstE .nil)) (.cons (.forS [5] true false (.sl 2 (.var 0) (o1 (ci 60))) (.cons (.set 6 (.call 44 (.cons (.op .fdiv (.var 5) (ci 8)) (o1 (ci 3))) [])) (.cons (.set 7 (.op .mod (.var 5) (ci 8))) (.cons (.ifS (.cm .lt (.var 7) (ci 5)) (.cons (.set 8 (.call 50 (o1 (.op .fdiv (.var 5) (ci 8))) [])) (.cons (.ifS (.cm .notN (.call 52 (.cons (.var 1) (o1 (.var 8))) []) (.cst .non)) (o2 (.ret (.cst (.bl false)))) .nil) (.cons (.ex (.mt .append (.var 3) (o1 (.var 8)))) (o2 (.ifS (.cm .eq (.op .mod (.ix (.var 6) (ci 2)) (ci 3)) (ci 0)) (.cons (.ex (.br 5 19 "tell" (.var 2) (o1 (.var 8)))) (o2 (.ex (.mt .append (.var 4) (o1 (.var 8)))))) .nil))))) (o2 (.ifS (.cm .eq (.var 7) (ci 5)) (o2 (.ifS (.cm .ne (.call 52 (.cons (.var 1) (o1 (.call 51 (o1 (.ix (.var 6) (ci 1))) []))) []) (.lstE (.cons (cs "bad") (o1 (.cst (.bl true)))))) (o2 (.ret (.cst (.bl false)))) .nil)) (.cons (.set 9 (.ix (.lstE (.cons (.op .mod (.ix (.var 6) (ci 1)) (ci 4)) (.cons (.op .add (.bt .lenB (o1 (.var 3))) (.op .mod (.ix (.var 6) (ci 1)) (ci 3))) (.cons (.op .mod (.ix (.var 6) (ci 1)) (.op .add (.bt .lenB (o1 (.var 3))) (ci 1))) (o1 (.op .sub (ci 0) (.op .mod (.ix (.var 6) (ci 1)) (ci 9)))))))) (.op .mod (.ix (.var 6) (ci 2)) (ci 4)))) (.cons (.set 10 (.cst .non)) (.cons (.ifS (.orE (.cm .gt (.var 9) (.bt .lenB (o1 (.var 3)))) (.cm .lt (.var 9) (ci 0))) (o2 (.set 10 (.lstE (.cons (cs "few") (o1 (.cst (.bl true))))))) (o2 (.set 3 (.sl 2 (.var 3) (o1 (.op .sub (.bt .lenB (o1 (.var 3))) (.var 9))))))) (o2 (.ifS (.cm .ne (.call 53 (.cons (.var 1) (o1 (.var 9))) []) (.var 10)) (o2 (.ret (.cst (.bl false)))) .nil)))))))) (.cons (.set 11 (.br 5 21 "told" (.var 1) .nil)) (.cons (.ifS (.orE (.notE (.isi (.var 11) (.b "list"))) (.cm .ne (.var 11) (.var 3))) (o2 (.ret (.cst (.bl false)))) .nil) (.cons (.ex (.mt .append (.var 11) (o1 (.tupE .nil)))) (.cons (.ifS (.andE (.cm .eq (.op .mod (.ix (.var 6) (ci 1)) (ci 11)) (ci 5)) (.cm .ne (.var 4) (.lstE .nil))) (.cons (.ex (.br 5 20 "back" (.var 2) (o1 (ci 1)))) (o2 (.ex (.mt .pop (.var 4) .nil)))) .nil) (o2 (.ifS (.cm .ne (.br 5 21 "told" (.var 2) .nil) (.var 4)) (o2 (.ret (.cst (.bl false)))) .nil)))))))))) (o2 (.ret (.cm .eq (.br 5 21 "told" (.var 1) .nil) (.var 3)))))))))
noncomputable def fns : List Fn := [⟨1, 1, aec⟩, ⟨1, 1, Sz⟩, ⟨1, 3, Tc⟩, ⟨2, 2, Te⟩, ⟨1, 1, tf⟩, ⟨3, 5, Gs⟩, ⟨4, 6, Ku⟩, ⟨3, 3, Kv⟩, ⟨3, 4, iz⟩, ⟨3, 3, Kx⟩, ⟨3, 3, ky⟩, ⟨3, 6, Ky⟩, ⟨3, 3, kz⟩, ⟨3, 3, Kz⟩, ⟨2, 2, gu⟩, ⟨3, 4, fc⟩, ⟨3, 4, Gu⟩, ⟨3, 4, gv⟩, ⟨2, 2, Tf⟩, ⟨2, 2, Iz⟩, ⟨2, 2, ja⟩, ⟨1, 1, la⟩, ⟨1, 1, aed⟩, ⟨1, 1, Tg⟩, ⟨1, 1, Th⟩, ⟨1, 1, Ti⟩, ⟨1, 1, tj⟩, ⟨1, 1, Tj⟩, ⟨1, 1, tm⟩, ⟨1, 5, Tn⟩, ⟨1, 1, To⟩, ⟨1, 1, Tp⟩, ⟨1, 1, tq⟩, ⟨1, 1, Tq⟩, ⟨6, 7, Ts⟩, ⟨1, 1, aee⟩, ⟨1, 1, aef⟩, ⟨1, 1, aeg⟩, ⟨1, 1, aeh⟩, ⟨1, 1, aei⟩, ⟨2, 2, La⟩, ⟨2, 2, aej⟩, ⟨2, 2, lb⟩, ⟨2, 2, aek⟩, ⟨2, 5, Ja⟩, ⟨0, 1, tu⟩, ⟨1, 1, Lb⟩, ⟨1, 2, Lc⟩, ⟨2, 5, Ld⟩, ⟨2, 3, Le⟩, ⟨1, 4, Lf⟩, ⟨1, 3, lg⟩, ⟨2, 4, jb⟩, ⟨2, 4, Jb⟩, ⟨1, 12, du⟩]
noncomputable def tab (n : Nat) (t : Ty) : Option Bool := match n with
 | 1 => (match t with | .o j => some (decide (j ∈ ([1, 0] : List Nat))) | .b x => if x = "ValueError" then some true else none)
 | 2 => (match t with | .o j => some (decide (j ∈ ([2, 0] : List Nat))) | .b x => if x = "ValueError" then some true else none)
 | 3 => (match t with | .o j => some (decide (j ∈ ([3, 0] : List Nat))) | .b x => if x = "ValueError" then some true else none)
 | 4 => (match t with | .o j => some (decide (j ∈ ([4, 0] : List Nat))) | .b x => if x = "ValueError" then some true else none)
 | _ => none
theorem Ck (h : x ≠ "ValueError") : tab n (.b x) = none := by
 unfold tab
 split
 · simp [h]
 · simp [h]
 · simp [h]
 · simp [h]
 · rfl
theorem ael : ∀ k, tab k (.o 2) = some true → k = 2 := by
 intro k h
 unfold tab at h
 split at h
 · exact absurd h (by decide)
 · rfl
 · exact absurd h (by decide)
 · exact absurd h (by decide)
 · cases h
section
variable (K : W.Frag) (mg : Str → Option Value) (fd : Nat → FuncData) (cls : CW)
structure Txt : Prop where
 f_1 : FunD K "is_whole" "is_whole" Hm (cls.fn 1) (fd 1)
 m_1 : mg "is_whole" = some (.ref (cls.fn 1))
 b_1 : Binds K (fd 1) ["thing"] []
 f_2 : FunD K "is_fraction" "is_fraction" ft (cls.fn 2) (fd 2)
 m_2 : mg "is_fraction" = some (.ref (cls.fn 2))
 b_2 : Binds K (fd 2) ["thing"] []
 f_3 : FunD K "common_divisor" "common_divisor" Gm (cls.fn 3) (fd 3)
 m_3 : mg "common_divisor" = some (.ref (cls.fn 3))
 b_3 : Binds K (fd 3) ["one", "other"] []
 f_4 : FunD K "word_of" "word_of" Hn (cls.fn 4) (fd 4)
 m_4 : mg "word_of" = some (.ref (cls.fn 4))
 b_4 : Binds K (fd 4) ["thing"] []
 f_5 : FunD K "kind_within" "kind_within" Dz (cls.fn 5) (fd 5)
 m_5 : mg "kind_within" = some (.ref (cls.fn 5))
 b_5 : Binds K (fd 5) ["names", "term", "room"] []
 f_6 : FunD K "check_kinds" "check_kinds" dt (cls.fn 6) (fd 6)
 m_6 : mg "check_kinds" = some (.ref (cls.fn 6))
 b_6 : Binds K (fd 6) ["names", "terms", "kinds", "room"] []
 f_7 : FunD K "kind_of_number" "kind_of_number" Hq (cls.fn 7) (fd 7)
 m_7 : mg "kind_of_number" = some (.ref (cls.fn 7))
 b_7 : Binds K (fd 7) ["names", "term", "room"] []
 f_8 : FunD K "kind_of_unknown" "kind_of_unknown" Ft (cls.fn 8) (fd 8)
 m_8 : mg "kind_of_unknown" = some (.ref (cls.fn 8))
 b_8 : Binds K (fd 8) ["names", "term", "room"] []
 f_9 : FunD K "kind_of_weigh" "kind_of_weigh" fu (cls.fn 9) (fd 9)
 m_9 : mg "kind_of_weigh" = some (.ref (cls.fn 9))
 b_9 : Binds K (fd 9) ["names", "term", "room"] []
 f_10 : FunD K "kind_of_plus" "kind_of_plus" Fu (cls.fn 10) (fd 10)
 m_10 : mg "kind_of_plus" = some (.ref (cls.fn 10))
 b_10 : Binds K (fd 10) ["names", "term", "room"] []
 f_11 : FunD K "kind_of_call" "kind_of_call" Dt (cls.fn 11) (fd 11)
 m_11 : mg "kind_of_call" = some (.ref (cls.fn 11))
 b_11 : Binds K (fd 11) ["names", "term", "room"] []
 f_12 : FunD K "kind_of_read" "kind_of_read" Fv (cls.fn 12) (fd 12)
 m_12 : mg "kind_of_read" = some (.ref (cls.fn 12))
 b_12 : Binds K (fd 12) ["names", "term", "room"] []
 f_13 : FunD K "kind_of_put" "kind_of_put" fw (cls.fn 13) (fd 13)
 m_13 : mg "kind_of_put" = some (.ref (cls.fn 13))
 b_13 : Binds K (fd 13) ["names", "term", "room"] []
 f_14 : FunD K "check_statement" "check_statement" Gn (cls.fn 14) (fd 14)
 m_14 : mg "check_statement" = some (.ref (cls.fn 14))
 b_14 : Binds K (fd 14) ["names", "statement"] []
 f_15 : FunD K "check_within" "check_within" eu (cls.fn 15) (fd 15)
 m_15 : mg "check_within" = some (.ref (cls.fn 15))
 b_15 : Binds K (fd 15) ["names", "statement", "room"] []
 f_16 : FunD K "check_all" "check_all" Ew (cls.fn 16) (fd 16)
 m_16 : mg "check_all" = some (.ref (cls.fn 16))
 b_16 : Binds K (fd 16) ["names", "statements", "room"] []
 f_17 : FunD K "check_atom" "check_atom" Ey (cls.fn 17) (fd 17)
 m_17 : mg "check_atom" = some (.ref (cls.fn 17))
 b_17 : Binds K (fd 17) ["names", "atom", "room"] []
 f_18 : FunD K "__init__" "House.__init__" gp (cls.fn 18) (fd 18)
 b_18 : Binds K (fd 18) ["self", "names"] []
 f_19 : FunD K "tell" "House.tell" Gp (cls.fn 19) (fd 19)
 b_19 : Binds K (fd 19) ["self", "statement"] []
 f_20 : FunD K "back" "House.back" gq (cls.fn 20) (fd 20)
 b_20 : Binds K (fd 20) ["self", "many"] []
 f_21 : FunD K "told" "House.told" Hr (cls.fn 21) (fd 21)
 b_21 : Binds K (fd 21) ["self"] []
 f_23 : FunD K "is_name" "is_name" Hs (cls.fn 23) (fd 23)
 m_23 : mg "is_name" = some (.ref (cls.fn 23))
 b_23 : Binds K (fd 23) ["thing"] []
 f_24 : FunD K "is_row" "is_row" Ht (cls.fn 24) (fd 24)
 m_24 : mg "is_row" = some (.ref (cls.fn 24))
 b_24 : Binds K (fd 24) ["thing"] []
 f_25 : FunD K "is_kind" "is_kind" Hu (cls.fn 25) (fd 25)
 m_25 : mg "is_kind" = some (.ref (cls.fn 25))
 b_25 : Binds K (fd 25) ["thing"] []
 f_26 : FunD K "is_list_of_names" "is_list_of_names" Hv (cls.fn 26) (fd 26)
 m_26 : mg "is_list_of_names" = some (.ref (cls.fn 26))
 b_26 : Binds K (fd 26) ["thing"] []
 f_27 : FunD K "is_bounded" "is_bounded" Hw (cls.fn 27) (fd 27)
 m_27 : mg "is_bounded" = some (.ref (cls.fn 27))
 b_27 : Binds K (fd 27) ["thing"] []
 f_28 : FunD K "is_function" "is_function" Hx (cls.fn 28) (fd 28)
 m_28 : mg "is_function" = some (.ref (cls.fn 28))
 b_28 : Binds K (fd 28) ["thing"] []
 f_29 : FunD K "check_wholes" "check_wholes" Ea (cls.fn 29) (fd 29)
 m_29 : mg "check_wholes" = some (.ref (cls.fn 29))
 b_29 : Binds K (fd 29) ["wholes"] []
 f_30 : FunD K "check_functions" "check_functions" Hy (cls.fn 30) (fd 30)
 m_30 : mg "check_functions" = some (.ref (cls.fn 30))
 b_30 : Binds K (fd 30) ["functions"] []
 f_31 : FunD K "check_names" "check_names" Hz (cls.fn 31) (fd 31)
 m_31 : mg "check_names" = some (.ref (cls.fn 31))
 b_31 : Binds K (fd 31) ["names"] []
 f_32 : FunD K "first_parts" "first_parts" ia (cls.fn 32) (fd 32)
 m_32 : mg "first_parts" = some (.ref (cls.fn 32))
 b_32 : Binds K (fd 32) ["rows"] []
 f_33 : FunD K "check_unlike" "check_unlike" Ia (cls.fn 33) (fd 33)
 m_33 : mg "check_unlike" = some (.ref (cls.fn 33))
 b_33 : Binds K (fd 33) ["names"] []
 f_34 : FunD K "__init__" "Names.__init__" Dp (cls.fn 34) (fd 34)
 b_34 : Binds K (fd 34) ["self", "numbers", "wholes", "things", "functions", "arrays"] []
 f_40 : FunD K "kind" "Names.kind" Gq (cls.fn 40) (fd 40)
 b_40 : Binds K (fd 40) ["self", "name"] []
 f_42 : FunD K "function" "Names.function" gr (cls.fn 42) (fd 42)
 b_42 : Binds K (fd 42) ["self", "name"] []
 f_44 : FunD K "_law_stream" "_law_stream" Eb (cls.fn 44) (fd 44)
 m_44 : mg "_law_stream" = some (.ref (cls.fn 44))
 b_44 : Binds K (fd 44) ["_law_cell", "_law_many"] []
 f_45 : FunD K "_law_names" "_law_names" ib (cls.fn 45) (fd 45)
 m_45 : mg "_law_names" = some (.ref (cls.fn 45))
 b_45 : Binds K (fd 45) [] []
 f_46 : FunD K "_law_small" "_law_small" Ib (cls.fn 46) (fd 46)
 m_46 : mg "_law_small" = some (.ref (cls.fn 46))
 b_46 : Binds K (fd 46) ["_law_number"] []
 f_47 : FunD K "_law_thing" "_law_thing" Gr (cls.fn 47) (fd 47)
 m_47 : mg "_law_thing" = some (.ref (cls.fn 47))
 b_47 : Binds K (fd 47) ["_law_number"] []
 f_48 : FunD K "_law_num" "_law_num" Ec (cls.fn 48) (fd 48)
 m_48 : mg "_law_num" = some (.ref (cls.fn 48))
 b_48 : Binds K (fd 48) ["_law_xs", "_law_k"] []
 f_49 : FunD K "_law_atom" "_law_atom" Fw (cls.fn 49) (fd 49)
 m_49 : mg "_law_atom" = some (.ref (cls.fn 49))
 b_49 : Binds K (fd 49) ["_law_xs", "_law_k"] []
 f_50 : FunD K "_law_statement" "_law_statement" Ez (cls.fn 50) (fd 50)
 m_50 : mg "_law_statement" = some (.ref (cls.fn 50))
 b_50 : Binds K (fd 50) ["_law_cell"] []
 f_51 : FunD K "_law_odd" "_law_odd" fx (cls.fn 51) (fd 51)
 m_51 : mg "_law_odd" = some (.ref (cls.fn 51))
 b_51 : Binds K (fd 51) ["_law_number"] []
 f_52 : FunD K "_law_tell" "_law_tell" fb (cls.fn 52) (fd 52)
 m_52 : mg "_law_tell" = some (.ref (cls.fn 52))
 b_52 : Binds K (fd 52) ["_law_house", "_law_statement_here"] []
 f_53 : FunD K "_law_back" "_law_back" Fb (cls.fn 53) (fd 53)
 m_53 : mg "_law_back" = some (.ref (cls.fn 53))
 b_53 : Binds K (fd 53) ["_law_house", "_law_many"] []
 f_54 : FunD K "law" "law" Cd (cls.fn 54) (fd 54)
 m_54 : mg "law" = some (.ref (cls.fn 54))
 b_54 : Binds K (fd 54) ["_law_script"] []
 J28 : ∃ u, mg "DEEPEST" = some u ∧ RelV ((.int 12) : L2.V) u
 J29 : ∃ u, mg "LETTERS" = some u ∧ RelV ((.str (Str.ofString "abcdefghijklmnopqrstuvwxyz")) : L2.V) u
 J30 : ∃ u, mg "LONGEST_NAME" = some u ∧ RelV ((.int 8) : L2.V) u
 J31 : ∃ u, mg "MOST_KINDS" = some u ∧ RelV ((.int 3) : L2.V) u
 J32 : ∃ u, mg "MOST_VALUES" = some u ∧ RelV ((.int 3600) : L2.V) u
 J33 : ∃ u, mg "WIDEST_BOUNDS" = some u ∧ RelV ((.int 60) : L2.V) u
 J45 : TabAt K mg "DEEDS" [((Str.ofString "number"), .ref (cls.fn 7)), ((Str.ofString "unknown"), .ref (cls.fn 8)), ((Str.ofString "weigh"), .ref (cls.fn 9)), ((Str.ofString "plus"), .ref (cls.fn 10)), ((Str.ofString "call"), .ref (cls.fn 11)), ((Str.ofString "read"), .ref (cls.fn 12)), ((Str.ofString "put"), .ref (cls.fn 13))]
 J34 : TabAt K mg "LENGTHS_statements" [((Str.ofString "atmost"), (.int 3)), ((Str.ofString "below"), (.int 3)), ((Str.ofString "same"), (.int 3)), ((Str.ofString "not"), (.int 2)), ((Str.ofString "and"), (.int 2)), ((Str.ofString "or"), (.int 2))]
 J35 : TabAt K mg "LENGTHS_terms" [((Str.ofString "number"), (.int 2)), ((Str.ofString "unknown"), (.int 2)), ((Str.ofString "weigh"), (.int 3)), ((Str.ofString "plus"), (.int 2)), ((Str.ofString "call"), (.int 3)), ((Str.ofString "read"), (.int 3)), ((Str.ofString "put"), (.int 4))]
 J4 : Cls K (cls 5)
 J9 : Cls K (cls 6)
 J25 : Cb K (cls 5) "known"
 J36 : Cb K (cls 5) "names"
 J14 : Cb K (cls 5) "statements"
 J46 : Cb K (cls 6) "arrays"
 J37 : Cb K (cls 6) "deeds"
 J47 : Cb K (cls 6) "functions"
 J48 : Cb K (cls 6) "limits"
 J49 : Cb K (cls 6) "numbers"
 J50 : Cb K (cls 6) "things"
 J23 : Cb K (cls 6) "unknowns"
 J51 : Cb K (cls 6) "wholes"
 J38 : Meth K (cls 5) "back" (cls.fn 20)
 J39 : Meth K (cls 5) "tell" (cls.fn 19)
 J26 : Meth K (cls 5) "told" (cls.fn 21)
 J52 : Meth K (cls 6) "function" (cls.fn 42)
 J53 : Meth K (cls 6) "kind" (cls.fn 40)
 J40 : Mk K (cls 5) (cls.fn 18)
 J54 : Mk K (cls 6) (cls.fn 34)
 J17 : mg "BadNames" = some (.ref (cls 1))
 J15 : mg "BadStatement" = some (.ref (cls 3))
 J11 : mg "BadTerm" = some (.ref (cls 2))
 J41 : mg "House" = some (.ref (cls 5))
 J55 : mg "Names" = some (.ref (cls 6))
 J27 : mg "NotTold" = some (.ref (cls 4))
 J42 : mg "PartError" = some (.ref (cls 0))
 J18 : W.nsIn K mainGlobals "BadNames" = some (some (.ref (cls 1)))
 J19 : W.excIn K (cls 1) [.type "ValueError", .type "Exception", .type "BaseException", .type "object"] "ValueError.__new__" = true
 J12 : W.nsIn K mainGlobals "BadTerm" = some (some (.ref (cls 2)))
 J13 : W.excIn K (cls 2) [.type "ValueError", .type "Exception", .type "BaseException", .type "object"] "ValueError.__new__" = true
 J24 : W.nsIn K mainGlobals "BadStatement" = some (some (.ref (cls 3)))
 J20 : W.excIn K (cls 3) [.type "ValueError", .type "Exception", .type "BaseException", .type "object"] "ValueError.__new__" = true
 J56 : W.nsIn K mainGlobals "NotTold" = some (some (.ref (cls 4)))
 J57 : W.excIn K (cls 4) [.type "ValueError", .type "Exception", .type "BaseException", .type "object"] "ValueError.__new__" = true
 J58 : ∀ n k, tab n (.o 3) = some k → ExcC K (cls n) ∧ W.kitOne K (.ref (cls n)) (.ref (cls 3)) = some k
 J59 : ∀ n k, tab n (.o 4) = some k → ExcC K (cls n) ∧ W.kitOne K (.ref (cls n)) (.ref (cls 4)) = some k
 J43 : ∀ n k, tab n (.o 0) = some k → ExcC K (cls n) ∧ W.kitOne K (.ref (cls n)) (.ref (cls 0)) = some k
 J60 : ∀ n, tab n (.o 3) = some true → W.exmOne K (.ref (cls n)) (.ref (cls 3)) = some true
 J61 : ∀ n, tab n (.o 4) = some true → W.exmOne K (.ref (cls n)) (.ref (cls 4)) = some true
 J62 : ∀ n k, tab n (.o 2) = some k → W.exmOne K (.ref (cls n)) (.ref (cls 2)) = some k
 J44 : mg "abs" = none
 J21 : mg "all" = none
 J63 : mg "bool" = none
 J64 : mg "int" = none
 J3 : mg "isinstance" = none
 J8 : mg "len" = none
 J10 : mg "list" = none
 J65 : mg "range" = none
 J66 : mg "set" = none
 J22 : mg "str" = none
 J16 : mg "tuple" = none
 J67 : mg "zip" = none
end
section
variable {Pr : Program} {w : World} {K : W.Frag} {mg : Str → Option Value} {base : Heap} {fd : Nat → FuncData} {cls : CW} {FF : Nat}
abbrev Fk (Pr : Program) (w : World) (K : W.Frag) (mg : Str → Option Value) (base : Heap) (fd : Nat → FuncData) (cls : CW) (FF n i : Nat) (ps : List Str) (k : Nat) : Prop := FnOk Pr w K mg base (CXd Pr w) (2 * n) (cls.fn i) (fd i) ps (spD K cls k (Bl tab fns FF n i))
structure IH (F : Nat → List Str → Nat → Prop) : Prop where
 i_1 : F 1 ["thing"] 1
 i_2 : F 2 ["thing"] 1
 i_3 : F 3 ["one", "other"] 2
 i_4 : F 4 ["thing"] 1
 i_5 : F 5 ["names", "term", "room"] 3
 i_6 : F 6 ["names", "terms", "kinds", "room"] 4
 i_7 : F 7 ["names", "term", "room"] 3
 i_8 : F 8 ["names", "term", "room"] 3
 i_9 : F 9 ["names", "term", "room"] 3
 i_10 : F 10 ["names", "term", "room"] 3
 i_11 : F 11 ["names", "term", "room"] 3
 i_12 : F 12 ["names", "term", "room"] 3
 i_13 : F 13 ["names", "term", "room"] 3
 i_14 : F 14 ["names", "statement"] 2
 i_15 : F 15 ["names", "statement", "room"] 3
 i_16 : F 16 ["names", "statements", "room"] 3
 i_17 : F 17 ["names", "atom", "room"] 3
 i_18 : F 18 ["self", "names"] 2
 i_19 : F 19 ["self", "statement"] 2
 i_20 : F 20 ["self", "many"] 2
 i_21 : F 21 ["self"] 1
 i_23 : F 23 ["thing"] 1
 i_24 : F 24 ["thing"] 1
 i_25 : F 25 ["thing"] 1
 i_26 : F 26 ["thing"] 1
 i_27 : F 27 ["thing"] 1
 i_28 : F 28 ["thing"] 1
 i_29 : F 29 ["wholes"] 1
 i_30 : F 30 ["functions"] 1
 i_31 : F 31 ["names"] 1
 i_32 : F 32 ["rows"] 1
 i_33 : F 33 ["names"] 1
 i_34 : F 34 ["self", "numbers", "wholes", "things", "functions", "arrays"] 6
 i_40 : F 40 ["self", "name"] 2
 i_42 : F 42 ["self", "name"] 2
 i_44 : F 44 ["_law_cell", "_law_many"] 2
 i_45 : F 45 [] 0
 i_46 : F 46 ["_law_number"] 1
 i_47 : F 47 ["_law_number"] 1
 i_48 : F 48 ["_law_xs", "_law_k"] 2
 i_49 : F 49 ["_law_xs", "_law_k"] 2
 i_50 : F 50 ["_law_cell"] 1
 i_51 : F 51 ["_law_number"] 1
 i_52 : F 52 ["_law_house", "_law_statement_here"] 2
 i_53 : F 53 ["_law_house", "_law_many"] 2
 i_54 : F 54 ["_law_script"] 1
abbrev Fj {Pr : Program} {w : World} {K : W.Frag} {mg : Str → Option Value} {base : Heap} {fd : Nat → FuncData} {cls : CW} {FF n : Nat} (_ : IH (Fk Pr w K mg base fd cls FF n)) (i : Nat) (ps : List Str) (k : Nat) : Prop := Fk Pr w K mg base fd cls FF (n + 1) i ps k
theorem aem {g : G} (T : Txt K mg fd cls) (ih : IH (Fk Pr w K mg base fd cls FF n)) (h1 : X.prog = Pr := by rfl) (h2 : X.w = w := by rfl) (h3 : X.K = K := by rfl) (h4 : X.mg = mg := by rfl) (h5 : X.base = base := by rfl) (h6 : g.K = K := by rfl) (h7 : g.cls = cls := by rfl) (h8 : g.call = Bl tab fns FF n := by rfl) : ∀ i ∈ ([7, 8, 9, 10, 11, 12, 13] : List Nat), FnV g X (2 * n) 3 i := by
 obtain ⟨⟩ := h1
 subst h2 h3 h4 h5 h7
 intro i hi
 simp only [List.mem_cons, List.not_mem_nil, or_false] at hi
 rcases hi with rfl | rfl | rfl | rfl | rfl | rfl | rfl
 · exact ⟨⟨_, _, by rw [h6, h8]; exact ih.i_7, T.b_7⟩, T.f_7.kp, by rw [h8]; exact ai rfl⟩
 · exact ⟨⟨_, _, by rw [h6, h8]; exact ih.i_8, T.b_8⟩, T.f_8.kp, by rw [h8]; exact ai rfl⟩
 · exact ⟨⟨_, _, by rw [h6, h8]; exact ih.i_9, T.b_9⟩, T.f_9.kp, by rw [h8]; exact ai rfl⟩
 · exact ⟨⟨_, _, by rw [h6, h8]; exact ih.i_10, T.b_10⟩, T.f_10.kp, by rw [h8]; exact ai rfl⟩
 · exact ⟨⟨_, _, by rw [h6, h8]; exact ih.i_11, T.b_11⟩, T.f_11.kp, by rw [h8]; exact ai rfl⟩
 · exact ⟨⟨_, _, by rw [h6, h8]; exact ih.i_12, T.b_12⟩, T.f_12.kp, by rw [h8]; exact ai rfl⟩
 · exact ⟨⟨_, _, by rw [h6, h8]; exact ih.i_13, T.b_13⟩, T.f_13.kp, by rw [h8]; exact ai rfl⟩
theorem aen : FnScope ["thing"] ["thing"] (Aq Hm) := ⟨rfl, rfl, rfl, by decide +kernel, rfl, by decide +kernel, by decide +kernel⟩
theorem Tv : Lv Hm "thing" := by kernel_rfl
theorem Nn : FnScope ["thing", "top", "bottom"] ["thing"] (Aq ft) := ⟨rfl, rfl, rfl, by decide +kernel, rfl, by decide +kernel, by decide +kernel⟩
theorem Np : Lv ft "thing" := by kernel_rfl
theorem nq : Lv ft "top" := by kernel_rfl
theorem Lg : Lv ft "bottom" := by kernel_rfl
theorem Nq : FnScope ["one", "other"] ["one", "other"] (Aq Gm) := ⟨rfl, rfl, rfl, by decide +kernel, rfl, by decide +kernel, by decide +kernel⟩
theorem Jq : Lv Gm "one" := by kernel_rfl
theorem jc : Lv Gm "other" := by kernel_rfl
theorem aeo : FnScope ["thing"] ["thing"] (Aq Hn) := ⟨rfl, rfl, rfl, by decide +kernel, rfl, by decide +kernel, by decide +kernel⟩
theorem lh : Lv Hn "thing" := by kernel_rfl
theorem Nr : FnScope ["names", "term", "room", "word", "deed"] ["names", "term", "room"] (Aq Dz) := ⟨rfl, rfl, rfl, by decide +kernel, rfl, by decide +kernel, by decide +kernel⟩
theorem aep : Lv Dz "names" := by kernel_rfl
theorem nt : Lv Dz "term" := by kernel_rfl
theorem tw : Lv Dz "room" := by kernel_rfl
theorem Lh : Lv Dz "word" := by kernel_rfl
theorem Tw : Lv Dz "deed" := by kernel_rfl
theorem Nt : FnScope ["names", "terms", "kinds", "room", "term", "kind"] ["names", "terms", "kinds", "room"] (Aq dt) := ⟨rfl, rfl, rfl, by decide +kernel, rfl, by decide +kernel, by decide +kernel⟩
theorem aeq : Lv dt "names" := by kernel_rfl
theorem nu : Lv dt "terms" := by kernel_rfl
theorem Tz : Lv dt "kinds" := by kernel_rfl
theorem aer : Lv dt "room" := by kernel_rfl
theorem ua : Lv dt "term" := by kernel_rfl
theorem Ua : Lv dt "kind" := by kernel_rfl
theorem aes : FnScope ["names", "term", "room"] ["names", "term", "room"] (Aq Hq) := ⟨rfl, rfl, rfl, by decide +kernel, rfl, by decide +kernel, by decide +kernel⟩
theorem aet : Lv Hq "term" := by kernel_rfl
theorem ub : FnScope ["names", "term", "room", "kind"] ["names", "term", "room"] (Aq Ft) := ⟨rfl, rfl, rfl, by decide +kernel, rfl, by decide +kernel, by decide +kernel⟩
theorem aeu : Lv Ft "names" := by kernel_rfl
theorem aev : Lv Ft "term" := by kernel_rfl
theorem Nu : Lv Ft "kind" := by kernel_rfl
theorem aew : FnScope ["names", "term", "room"] ["names", "term", "room"] (Aq fu) := ⟨rfl, rfl, rfl, by decide +kernel, rfl, by decide +kernel, by decide +kernel⟩
theorem aex : Lv fu "names" := by kernel_rfl
theorem Ub : Lv fu "term" := by kernel_rfl
theorem aey : Lv fu "room" := by kernel_rfl
theorem aez : FnScope ["names", "term", "room"] ["names", "term", "room"] (Aq Fu) := ⟨rfl, rfl, rfl, by decide +kernel, rfl, by decide +kernel, by decide +kernel⟩
theorem afa : Lv Fu "names" := by kernel_rfl
theorem nv : Lv Fu "term" := by kernel_rfl
theorem afb : Lv Fu "room" := by kernel_rfl
theorem Li : FnScope ["names", "term", "room", "function", "kinds", "kind"] ["names", "term", "room"] (Aq Dt) := ⟨rfl, rfl, rfl, by decide +kernel, rfl, by decide +kernel, by decide +kernel⟩
theorem uc : Lv Dt "names" := by kernel_rfl
theorem Uc : Lv Dt "term" := by kernel_rfl
theorem afc : Lv Dt "room" := by kernel_rfl
theorem Nv : Lv Dt "function" := by kernel_rfl
theorem ud : Lv Dt "kinds" := by kernel_rfl
theorem Ud : Lv Dt "kind" := by kernel_rfl
theorem afd : FnScope ["names", "term", "room"] ["names", "term", "room"] (Aq Fv) := ⟨rfl, rfl, rfl, by decide +kernel, rfl, by decide +kernel, by decide +kernel⟩
theorem afe : Lv Fv "names" := by kernel_rfl
theorem aff : Lv Fv "term" := by kernel_rfl
theorem afg : Lv Fv "room" := by kernel_rfl
theorem afh : FnScope ["names", "term", "room"] ["names", "term", "room"] (Aq fw) := ⟨rfl, rfl, rfl, by decide +kernel, rfl, by decide +kernel, by decide +kernel⟩
theorem afi : Lv fw "names" := by kernel_rfl
theorem afj : Lv fw "term" := by kernel_rfl
theorem afk : Lv fw "room" := by kernel_rfl
theorem afl : FnScope ["names", "statement"] ["names", "statement"] (Aq Gn) := ⟨rfl, rfl, rfl, by decide +kernel, rfl, by decide +kernel, by decide +kernel⟩
theorem afm : Lv Gn "names" := by kernel_rfl
theorem afn : Lv Gn "statement" := by kernel_rfl
theorem ue : FnScope ["names", "statement", "room", "word"] ["names", "statement", "room"] (Aq eu) := ⟨rfl, rfl, rfl, by decide +kernel, rfl, by decide +kernel, by decide +kernel⟩
theorem Nw : Lv eu "names" := by kernel_rfl
theorem jr : Lv eu "statement" := by kernel_rfl
theorem lj : Lv eu "room" := by kernel_rfl
theorem Jr : Lv eu "word" := by kernel_rfl
theorem Ue : FnScope ["names", "statements", "room", "statement"] ["names", "statements", "room"] (Aq Ew) := ⟨rfl, rfl, rfl, by decide +kernel, rfl, by decide +kernel, by decide +kernel⟩
theorem afo : Lv Ew "names" := by kernel_rfl
theorem uf : Lv Ew "statements" := by kernel_rfl
theorem afp : Lv Ew "room" := by kernel_rfl
theorem ug : Lv Ew "statement" := by kernel_rfl
theorem Ug : FnScope ["names", "atom", "room", "kind"] ["names", "atom", "room"] (Aq Ey) := ⟨rfl, rfl, rfl, by decide +kernel, rfl, by decide +kernel, by decide +kernel⟩
theorem uh : Lv Ey "names" := by kernel_rfl
theorem Nx : Lv Ey "atom" := by kernel_rfl
theorem Uh : Lv Ey "room" := by kernel_rfl
theorem Lj : Lv Ey "kind" := by kernel_rfl
theorem afq : FnScope ["self", "names"] ["self", "names"] (Aq gp) := ⟨rfl, rfl, rfl, by decide +kernel, rfl, by decide +kernel, by decide +kernel⟩
theorem ny : Lv gp "self" := by kernel_rfl
theorem afr : Lv gp "names" := by kernel_rfl
theorem afs : FnScope ["self", "statement"] ["self", "statement"] (Aq Gp) := ⟨rfl, rfl, rfl, by decide +kernel, rfl, by decide +kernel, by decide +kernel⟩
theorem Ny : Lv Gp "self" := by kernel_rfl
theorem ui : Lv Gp "statement" := by kernel_rfl
theorem aft : FnScope ["self", "many"] ["self", "many"] (Aq gq) := ⟨rfl, rfl, rfl, by decide +kernel, rfl, by decide +kernel, by decide +kernel⟩
theorem js : Lv gq "self" := by kernel_rfl
theorem Ui : Lv gq "many" := by kernel_rfl
theorem afu : FnScope ["self"] ["self"] (Aq Hr) := ⟨rfl, rfl, rfl, by decide +kernel, rfl, by decide +kernel, by decide +kernel⟩
theorem afv : Lv Hr "self" := by kernel_rfl
theorem afw : FnScope ["thing"] ["thing"] (Aq Hs) := ⟨rfl, rfl, rfl, by decide +kernel, rfl, by decide +kernel, by decide +kernel⟩
theorem nz : Lv Hs "thing" := by kernel_rfl
theorem afx : FnScope ["thing"] ["thing"] (Aq Ht) := ⟨rfl, rfl, rfl, by decide +kernel, rfl, by decide +kernel, by decide +kernel⟩
theorem Nz : Lv Ht "thing" := by kernel_rfl
theorem afy : FnScope ["thing"] ["thing"] (Aq Hu) := ⟨rfl, rfl, rfl, by decide +kernel, rfl, by decide +kernel, by decide +kernel⟩
theorem uj : Lv Hu "thing" := by kernel_rfl
theorem afz : FnScope ["thing"] ["thing"] (Aq Hv) := ⟨rfl, rfl, rfl, by decide +kernel, rfl, by decide +kernel, by decide +kernel⟩
theorem Uj : Lv Hv "thing" := by kernel_rfl
theorem aga : FnScope ["thing"] ["thing"] (Aq Hw) := ⟨rfl, rfl, rfl, by decide +kernel, rfl, by decide +kernel, by decide +kernel⟩
theorem Jc : Lv Hw "thing" := by kernel_rfl
theorem agb : FnScope ["thing"] ["thing"] (Aq Hx) := ⟨rfl, rfl, rfl, by decide +kernel, rfl, by decide +kernel, by decide +kernel⟩
theorem Js : Lv Hx "thing" := by kernel_rfl
theorem jd : FnScope ["wholes", "values", "name", "low", "high"] ["wholes"] (Aq Ea) := ⟨rfl, rfl, rfl, by decide +kernel, rfl, by decide +kernel, by decide +kernel⟩
theorem Oa : Lv Ea "wholes" := by kernel_rfl
theorem Ob : Lv Ea "values" := by kernel_rfl
theorem agc : Lv Ea "name" := by kernel_rfl
theorem uk : Lv Ea "low" := by kernel_rfl
theorem Uk : Lv Ea "high" := by kernel_rfl
theorem agd : FnScope ["functions"] ["functions"] (Aq Hy) := ⟨rfl, rfl, rfl, by decide +kernel, rfl, by decide +kernel, by decide +kernel⟩
theorem Ul : Lv Hy "functions" := by kernel_rfl
theorem age : FnScope ["names"] ["names"] (Aq Hz) := ⟨rfl, rfl, rfl, by decide +kernel, rfl, by decide +kernel, by decide +kernel⟩
theorem agf : Lv Hz "names" := by kernel_rfl
theorem agg : FnScope ["rows"] ["rows"] (Aq ia) := ⟨rfl, rfl, rfl, by decide +kernel, rfl, by decide +kernel, by decide +kernel⟩
theorem agh : Lv ia "rows" := by kernel_rfl
theorem agi : FnScope ["names"] ["names"] (Aq Ia) := ⟨rfl, rfl, rfl, by decide +kernel, rfl, by decide +kernel, by decide +kernel⟩
theorem um : Lv Ia "names" := by kernel_rfl
theorem Um : FnScope ["self", "numbers", "wholes", "things", "functions", "arrays", "names"] ["self", "numbers", "wholes", "things", "functions", "arrays"] (Aq Dp) := ⟨rfl, rfl, rfl, by decide +kernel, rfl, by decide +kernel, by decide +kernel⟩
theorem Fc : Lv Dp "self" := by kernel_rfl
theorem Lk : Lv Dp "numbers" := by kernel_rfl
theorem jt : Lv Dp "wholes" := by kernel_rfl
theorem ll : Lv Dp "things" := by kernel_rfl
theorem Ll : Lv Dp "functions" := by kernel_rfl
theorem Lm : Lv Dp "arrays" := by kernel_rfl
theorem uo : Lv Dp "names" := by kernel_rfl
theorem agj : FnScope ["self", "name"] ["self", "name"] (Aq Gq) := ⟨rfl, rfl, rfl, by decide +kernel, rfl, by decide +kernel, by decide +kernel⟩
theorem agk : Lv Gq "self" := by kernel_rfl
theorem Uo : Lv Gq "name" := by kernel_rfl
theorem agl : FnScope ["self", "name"] ["self", "name"] (Aq gr) := ⟨rfl, rfl, rfl, by decide +kernel, rfl, by decide +kernel, by decide +kernel⟩
theorem agm : Lv gr "self" := by kernel_rfl
theorem Up : Lv gr "name" := by kernel_rfl
theorem Gv : FnScope ["_law_cell", "_law_many", "_law_found", "_law_number", "_law_k"] ["_law_cell", "_law_many"] (Aq Eb) := ⟨rfl, rfl, rfl, by decide +kernel, rfl, by decide +kernel, by decide +kernel⟩
theorem Oc : Lv Eb "_law_cell" := by kernel_rfl
theorem Od : Lv Eb "_law_many" := by kernel_rfl
theorem Jt : Lv Eb "_law_found" := by kernel_rfl
theorem Du : Lv Eb "_law_number" := by kernel_rfl
theorem uq : Lv Eb "_law_k" := by kernel_rfl
theorem Uq : FnScope ["_law_functions"] [] (Aq ib) := ⟨rfl, rfl, rfl, by decide +kernel, rfl, by decide +kernel, by decide +kernel⟩
theorem Oe : Lv ib "_law_functions" := by kernel_rfl
theorem agn : FnScope ["_law_number"] ["_law_number"] (Aq Ib) := ⟨rfl, rfl, rfl, by decide +kernel, rfl, by decide +kernel, by decide +kernel⟩
theorem Ln : Lv Ib "_law_number" := by kernel_rfl
theorem ur : FnScope ["_law_number", "_law_thing_here"] ["_law_number"] (Aq Gr) := ⟨rfl, rfl, rfl, by decide +kernel, rfl, by decide +kernel, by decide +kernel⟩
theorem Ur : Lv Gr "_law_number" := by kernel_rfl
theorem Of : Lv Gr "_law_thing_here" := by kernel_rfl
theorem Lo : FnScope ["_law_xs", "_law_k", "_law_one", "_law_way", "_law_array"] ["_law_xs", "_law_k"] (Aq Ec) := ⟨rfl, rfl, rfl, by decide +kernel, rfl, by decide +kernel, by decide +kernel⟩
theorem Fx : Lv Ec "_law_xs" := by kernel_rfl
theorem fy : Lv Ec "_law_k" := by kernel_rfl
theorem Fy : Lv Ec "_law_one" := by kernel_rfl
theorem gw : Lv Ec "_law_way" := by kernel_rfl
theorem og : Lv Ec "_law_array" := by kernel_rfl
theorem Us : FnScope ["_law_xs", "_law_k", "_law_way"] ["_law_xs", "_law_k"] (Aq Fw) := ⟨rfl, rfl, rfl, by decide +kernel, rfl, by decide +kernel, by decide +kernel⟩
theorem ju : Lv Fw "_law_xs" := by kernel_rfl
theorem Ju : Lv Fw "_law_k" := by kernel_rfl
theorem Og : Lv Fw "_law_way" := by kernel_rfl
theorem lp : FnScope ["_law_cell", "_law_xs", "_law_one", "_law_way"] ["_law_cell"] (Aq Ez) := ⟨rfl, rfl, rfl, by decide +kernel, rfl, by decide +kernel, by decide +kernel⟩
theorem ago : Lv Ez "_law_cell" := by kernel_rfl
theorem ic : Lv Ez "_law_xs" := by kernel_rfl
theorem Jd : Lv Ez "_law_one" := by kernel_rfl
theorem jv : Lv Ez "_law_way" := by kernel_rfl
theorem Lp : FnScope ["_law_number", "_law_atom_here", "_law_some"] ["_law_number"] (Aq fx) := ⟨rfl, rfl, rfl, by decide +kernel, rfl, by decide +kernel, by decide +kernel⟩
theorem agp : Lv fx "_law_number" := by kernel_rfl
theorem oh : Lv fx "_law_atom_here" := by kernel_rfl
theorem lq : Lv fx "_law_some" := by kernel_rfl
theorem Oh : FnScope ["_law_house", "_law_statement_here", "_law_told", "e"] ["_law_house", "_law_statement_here"] (Aq fb) := ⟨rfl, rfl, rfl, by decide +kernel, rfl, by decide +kernel, by decide +kernel⟩
theorem agq : Lv fb "_law_house" := by kernel_rfl
theorem agr : Lv fb "_law_statement_here" := by kernel_rfl
theorem Ut : Lv fb "_law_told" := by kernel_rfl
theorem oi : Lv fb "e" := by kernel_rfl
theorem Oi : FnScope ["_law_house", "_law_many", "_law_told", "e"] ["_law_house", "_law_many"] (Aq Fb) := ⟨rfl, rfl, rfl, by decide +kernel, rfl, by decide +kernel, by decide +kernel⟩
theorem ags : Lv Fb "_law_house" := by kernel_rfl
theorem agt : Lv Fb "_law_many" := by kernel_rfl
theorem uu : Lv Fb "_law_told" := by kernel_rfl
theorem Oj : Lv Fb "e" := by kernel_rfl
theorem dk : FnScope ["_law_script", "_law_house", "_law_other", "_law_standing", "_law_aside", "_law_cell", "_law_xs", "_law_way", "_law_statement_here", "_law_many", "_law_due", "_law_told"] ["_law_script"] (Aq Cd) := ⟨rfl, rfl, rfl, by decide +kernel, rfl, by decide +kernel, by decide +kernel⟩
theorem agu : Lv Cd "_law_script" := by kernel_rfl
theorem je : Lv Cd "_law_house" := by kernel_rfl
theorem Lq : Lv Cd "_law_other" := by kernel_rfl
theorem Fd : Lv Cd "_law_standing" := by kernel_rfl
theorem Jv : Lv Cd "_law_aside" := by kernel_rfl
theorem lr : Lv Cd "_law_cell" := by kernel_rfl
theorem Fz : Lv Cd "_law_xs" := by kernel_rfl
theorem Ol : Lv Cd "_law_way" := by kernel_rfl
theorem jw : Lv Cd "_law_statement_here" := by kernel_rfl
theorem Jw : Lv Cd "_law_many" := by kernel_rfl
theorem om : Lv Cd "_law_due" := by kernel_rfl
theorem Lr : Lv Cd "_law_told" := by kernel_rfl
section
variable {n : Nat} (hw : cls.w = w) (T : Txt K mg fd cls) (ih : IH (Fk Pr w K mg base fd cls FF n))
include hw T ih
theorem agv : Fj ih 1 ["thing"] 1 := by
 refine Az (body' := Sz) T.f_1 aen rfl fun _ _ _ _ _ _ hr => ?_
 have hu := hr.units
 subst hw
 refine Ac ?_ ?_
 refine Ap ?_
 refine Fo ?_ ?_
 refine Ci ?_ ?_ ?_ ?_ T.J3 ?_ T.J64 ?_ ?_
 rfl
 decide
 exact fun n => Ck (n := n) (x := "int") (by decide)
 rfl
 rfl
 rfl
 exact sv Tv
 refine gj ?_
 refine Mp ?_
 refine Ci ?_ ?_ ?_ ?_ T.J3 ?_ T.J63 ?_ ?_
 rfl
 decide
 exact fun n => Ck (n := n) (x := "bool") (by decide)
 rfl
 rfl
 rfl
 exact sv Tv
 exact Ae
theorem agw : Fj ih 2 ["thing"] 1 := by
 refine Az (body' := Tc) T.f_2 Nn rfl fun _ _ _ _ _ _ hr => ?_
 have hu := hr.units
 subst hw
 refine Ac ?_ ?_
 refine Aw ?_ ?_ ?_
 refine PW.pt ?_
 refine Cg ?_ ?_
 refine Bo ?_
 refine bp ?_ ?_ ?_ ?_
 rfl
 refine Ci ?_ ?_ ?_ ?_ T.J3 ?_ T.J16 ?_ ?_
 rfl
 decide
 exact fun n => Ck (n := n) (x := "tuple") (by decide)
 rfl
 rfl
 rfl
 exact sv Np
 exact Dn
 intro _; rfl
 refine dn ?_
 refine Dd ?_ ?_ ?_ ?_
 rfl
 exact hu
 refine Cp ?_ ?_ T.J8 ?_
 rfl
 rfl
 refine aa (sv Np) ?_
 exact ae
 exact Af
 refine Ac (Ap Dr) ?_
 exact Ae
 exact Ae
 refine Ac ?_ ?_
 refine qu (is := [1, 2]) ?_ ?_
 exact sv Np
 refine Ij ?_ ?_
 rfl
 refine Cu ?_ ?_
 refine di (i := 1) ?_ ?_ ?_
 exact Nn.nd
 rfl
 exact Or.inl nq
 refine Cu ?_ ?_
 refine di (i := 2) ?_ ?_ ?_
 exact Nn.nd
 rfl
 exact Or.inl Lg
 exact Ii
 refine Ac ?_ ?_
 refine Aw ?_ ?_ ?_
 refine PW.pt ?_
 refine Cg ?_ ?_
 refine Bo ?_
 refine bp ?_ ?_ ?_ ?_
 rfl
 refine Ao ih.i_1 hr (by rfl) T.m_1 T.f_1.kp T.b_1 .nil An Am (ai rfl) ?_
 refine aa (sv nq) ?_
 exact ae
 exact Eo
 intro _; rfl
 refine dn ?_
 refine Bo ?_
 refine bp ?_ ?_ ?_ ?_
 rfl
 refine Ao ih.i_1 hr (by rfl) T.m_1 T.f_1.kp T.b_1 .nil An Am (ai rfl) ?_
 refine aa (sv Lg) ?_
 exact ae
 exact Eo
 intro _; rfl
 refine Ac (Ap Dr) ?_
 exact Ae
 exact Ae
 refine Ac ?_ ?_
 refine Ap ?_
 refine Fo ?_ ?_
 refine zj (sv Lg) ?_
 exact Af
 refine gj ?_
 refine Mm ?_ ?_ ?_ ?_
 rfl
 exact hu
 refine Ao ih.i_3 hr (by rfl) T.m_3 T.f_3.kp T.b_3 .nil An Am (ai rfl) ?_
 refine aa (sv nq) ?_
 refine aa (sv Lg) ?_
 exact ae
 exact Af
 exact Ae
theorem agx : Fj ih 3 ["one", "other"] 2 := by
 refine Az (body' := Te) T.f_3 Nq rfl fun _ _ _ _ _ _ hr => ?_
 have hu := hr.units
 subst hw
 refine Ac ?_ ?_
 refine Qu (i := 0) (j := 1) ?_ ?_ ?_ ?_ ?_ ?_ ?_ ?_ ?_ ?_
 rfl
 exact Nq.nd
 rfl
 rfl
 decide
 exact Jq
 exact jc
 refine qq ?_ T.J44 ?_
 rfl
 refine aa (sv Jq) ?_
 exact ae
 refine qq ?_ T.J44 ?_
 rfl
 refine aa (sv jc) ?_
 exact ae
 rfl
 refine Ac ?_ ?_
 refine qt PassesOwn.leaving ?_ ?_
 refine Dd ?_ ?_ ?_ ?_
 rfl
 exact hu
 exact sv jc
 exact Af
 refine Ac ?_ ?_
 refine Qu (i := 0) (j := 1) ?_ ?_ ?_ ?_ ?_ ?_ ?_ ?_ ?_ ?_
 rfl
 exact Nq.nd
 rfl
 rfl
 decide
 exact Jq
 exact jc
 exact sv jc
 refine bo (sv Jq) ?_
 exact sv jc
 rfl
 exact Ae
 refine Ac (Ap (sv Jq)) ?_
 exact Ae
theorem agy : Fj ih 4 ["thing"] 1 := by
 refine Az (body' := tf) T.f_4 aeo rfl fun _ _ _ _ _ _ hr => ?_
 have hu := hr.units
 subst hw
 refine Ac ?_ ?_
 refine Aw ?_ ?_ ?_
 refine PW.pt ?_
 refine Cg ?_ ?_
 refine Bo ?_
 refine bp ?_ ?_ ?_ ?_
 rfl
 refine Ci ?_ ?_ ?_ ?_ T.J3 ?_ T.J16 ?_ ?_
 rfl
 decide
 exact fun n => Ck (n := n) (x := "tuple") (by decide)
 rfl
 rfl
 rfl
 exact sv lh
 exact Dn
 intro _; rfl
 refine Cg ?_ ?_
 refine Bo ?_
 refine bp ?_ ?_ ?_ ?_
 rfl
 exact sv lh
 exact aas
 intro _; rfl
 refine dn ?_
 refine Bo ?_
 refine bp ?_ ?_ ?_ ?_
 rfl
 refine Ci ?_ ?_ ?_ ?_ T.J3 ?_ T.J22 ?_ ?_
 rfl
 decide
 exact fun n => Ck (n := n) (x := "str") (by decide)
 rfl
 rfl
 rfl
 refine Au ?_ ?_ ?_ ?_ ?_ ?_
 rfl
 rfl
 exact hu
 exact sv lh
 exact Af
 intro _ _; rfl
 exact Dn
 intro _; rfl
 refine Ac (Ap Ds) ?_
 exact Ae
 exact Ae
 refine Ac ?_ ?_
 refine Ap ?_
 refine Au ?_ ?_ ?_ ?_ ?_ ?_
 rfl
 rfl
 exact hu
 exact sv lh
 exact Af
 intro _ _; rfl
 exact Ae
theorem agz : Fj ih 5 ["names", "term", "room"] 3 := by
 refine Az (body' := Gs) T.f_5 Nr rfl fun _ _ _ _ _ _ hr => ?_
 have hu := hr.units
 subst hw
 refine Ac ?_ ?_
 refine Be (i := 3) ?_ ?_ ?_ ?_
 exact Nr.nd
 rfl
 exact Or.inl Lh
 refine Ao ih.i_4 hr (by rfl) T.m_4 T.f_4.kp T.b_4 .nil An Am (ai rfl) ?_
 refine aa (sv nt) ?_
 exact ae
 refine Ac ?_ ?_
 refine Aw ?_ ?_ ?_
 refine PW.pt ?_
 refine Cg ?_ ?_
 refine jm (sv tw) ?_
 exact Af
 refine Cg ?_ ?_
 refine sy ?_ ?_ T.J35 ?_
 rfl
 rfl
 exact sv Lh
 refine dn ?_
 refine Dd ?_ ?_ ?_ ?_
 rfl
 exact hu
 refine Cp ?_ ?_ T.J8 ?_
 rfl
 rfl
 refine aa (sv nt) ?_
 exact ae
 refine Sx ?_ T.J35 ?_ ?_ ?_
 rfl
 rfl
 exact sv Lh
 intro _ _; rfl
 refine Ac ?_ ?_
 refine cj ?_ ?_ ?_ T.J12 T.J11 T.J13
 exact cg
 exact hr.hd
 rfl
 exact Ae
 exact Ae
 refine Ac ?_ ?_
 refine Be (i := 4) ?_ ?_ ?_ ?_
 exact Nr.nd
 rfl
 exact Or.inl Tw
 refine adm ?_ T.J45 ?_ ?_
 rfl
 exact sv Lh
 intro _ _; rfl
 refine Ac ?_ ?_
 refine Ap ?_
 refine adq (k := 2 * n) (np := 3) ?_ ?_ ?_ ?_ ?_
 refine aem (fd := fd) ?_ ?_
 exact T
 exact ih
 exact hr
 exact Am
 exact sv Tw
 refine aa (sv aep) ?_
 refine aa (sv nt) ?_
 refine aa ?_ ?_
 refine Gi (sv tw) ?_
 exact Af
 exact ae
 exact Ae
theorem aha : Fj ih 6 ["names", "terms", "kinds", "room"] 4 := by
 refine Az (body' := Ku) T.f_6 Nt rfl fun _ _ _ _ _ _ hr => ?_
 have hu := hr.units
 subst hw
 refine Ac ?_ ?_
 refine Aw ?_ ?_ ?_
 refine PW.pt ?_
 refine Cg ?_ ?_
 refine Bo ?_
 refine bp ?_ ?_ ?_ ?_
 rfl
 refine Ci ?_ ?_ ?_ ?_ T.J3 ?_ T.J16 ?_ ?_
 rfl
 decide
 exact fun n => Ck (n := n) (x := "tuple") (by decide)
 rfl
 rfl
 rfl
 exact sv nu
 exact Dn
 intro _; rfl
 refine dn ?_
 refine Dd ?_ ?_ ?_ ?_
 rfl
 exact hu
 refine Cp ?_ ?_ T.J8 ?_
 rfl
 rfl
 refine aa (sv nu) ?_
 exact ae
 refine Cp ?_ ?_ T.J8 ?_
 rfl
 rfl
 refine aa (sv Tz) ?_
 exact ae
 refine Ac ?_ ?_
 refine cj ?_ ?_ ?_ T.J12 T.J11 T.J13
 exact cg
 exact hr.hd
 rfl
 exact Ae
 exact Ae
 refine Ac ?_ ?_
 refine aea (t1 := [4]) (o1 := true) (t2 := [5]) (o2 := true) ?_ ?_ ?_ ?_ T.J67 ?_ ?_ ?_ ?_
 rfl
 exact PassesOwn.leaving
 rfl
 rfl
 exact sv nu
 exact sv Tz
 refine Ij ?_ ?_
 rfl
 refine Cu ?_ ?_
 refine df Nt.nd ?_ ?_
 rfl
 exact Or.inl ua
 refine Cu ?_ ?_
 refine df Nt.nd ?_ ?_
 rfl
 exact Or.inl Ua
 exact Ii
 refine Ac ?_ ?_
 refine Aw ?_ ?_ ?_
 refine Dd ?_ ?_ ?_ ?_
 rfl
 exact hu
 refine Ao ih.i_5 hr (by rfl) T.m_5 T.f_5.kp T.b_5 .nil An Am (ai rfl) ?_
 refine aa (sv aeq) ?_
 refine aa (sv ua) ?_
 refine aa (sv aer) ?_
 exact ae
 exact sv Ua
 refine Ac ?_ ?_
 refine cj ?_ ?_ ?_ T.J12 T.J11 T.J13
 exact cg
 exact hr.hd
 rfl
 exact Ae
 exact Ae
 exact Ae
 exact Ae
theorem ahb : Fj ih 7 ["names", "term", "room"] 3 := by
 refine Az (body' := Kv) T.f_7 aes rfl fun _ _ _ _ _ _ hr => ?_
 have hu := hr.units
 subst hw
 refine Ac ?_ ?_
 refine Aw ?_ ?_ ?_
 refine Bo ?_
 refine bp ?_ ?_ ?_ ?_
 rfl
 refine Ao ih.i_2 hr (by rfl) T.m_2 T.f_2.kp T.b_2 .nil An Am (ai rfl) ?_
 refine aa ?_ ?_
 refine Au ?_ ?_ ?_ ?_ ?_ ?_
 rfl
 rfl
 exact hu
 exact sv aet
 exact Af
 intro _ _; rfl
 exact ae
 exact Eo
 intro _; rfl
 refine Ac ?_ ?_
 refine cj ?_ ?_ ?_ T.J12 T.J11 T.J13
 exact cg
 exact hr.hd
 rfl
 exact Ae
 exact Ae
 refine Ac (Ap ah) ?_
 exact Ae
theorem ahc : Fj ih 8 ["names", "term", "room"] 3 := by
 refine Az (body' := iz) T.f_8 ub rfl fun _ _ _ _ _ _ hr => ?_
 have hu := hr.units
 subst hw
 refine Ac ?_ ?_
 refine Be (i := 3) ?_ ?_ ?_ ?_
 exact ub.nd
 rfl
 exact Or.inl Nu
 refine iu (k := 2 * n) (np := 2) T.J9 T.J53 ?_ ?_ T.b_40 ?_ ?_ ?_ ?_
 exact ih.i_40
 exact hr
 exact Am
 exact ai rfl
 exact sv aeu
 refine aa ?_ ?_
 refine Au ?_ ?_ ?_ ?_ ?_ ?_
 rfl
 rfl
 exact hu
 exact sv aev
 exact Af
 intro _ _; rfl
 exact ae
 refine Ac ?_ ?_
 refine Aw ?_ ?_ ?_
 refine qz ?_ ?_ ?_ ?_ ?_
 rfl
 rfl
 exact hu
 exact sv Nu
 exact Ds
 refine Ac ?_ ?_
 refine cj ?_ ?_ ?_ T.J12 T.J11 T.J13
 exact cg
 exact hr.hd
 rfl
 exact Ae
 exact Ae
 refine Ac (Ap (sv Nu)) ?_
 exact Ae
theorem ahd : Fj ih 9 ["names", "term", "room"] 3 := by
 refine Az (body' := Kx) T.f_9 aew rfl fun _ _ _ _ _ _ hr => ?_
 have hu := hr.units
 subst hw
 refine Ac ?_ ?_
 refine Aw ?_ ?_ ?_
 refine Bo ?_
 refine bp ?_ ?_ ?_ ?_
 rfl
 refine Ao ih.i_2 hr (by rfl) T.m_2 T.f_2.kp T.b_2 .nil An Am (ai rfl) ?_
 refine aa ?_ ?_
 refine Au ?_ ?_ ?_ ?_ ?_ ?_
 rfl
 rfl
 exact hu
 exact sv Ub
 exact Af
 intro _ _; rfl
 exact ae
 exact Eo
 intro _; rfl
 refine Ac ?_ ?_
 refine cj ?_ ?_ ?_ T.J12 T.J11 T.J13
 exact cg
 exact hr.hd
 rfl
 exact Ae
 exact Ae
 refine Ac ?_ ?_
 refine Bm ?_
 refine Ao ih.i_6 hr (by rfl) T.m_6 T.f_6.kp T.b_6 .nil An Am (ai rfl) ?_
 refine aa (sv aex) ?_
 refine aa ?_ ?_
 refine Mr ?_ ?_ ?_
 rfl
 exact sv Ub
 exact Af
 refine aa (Ai (aa ah ae)) ?_
 refine aa (sv aey) ?_
 exact ae
 refine Ac (Ap ah) ?_
 exact Ae
theorem ahe : Fj ih 10 ["names", "term", "room"] 3 := by
 refine Az (body' := ky) T.f_10 aez rfl fun _ _ _ _ _ _ hr => ?_
 have hu := hr.units
 subst hw
 refine Ac ?_ ?_
 refine Aw ?_ ?_ ?_
 refine Bo ?_
 refine bp ?_ ?_ ?_ ?_
 rfl
 refine Ci ?_ ?_ ?_ ?_ T.J3 ?_ T.J16 ?_ ?_
 rfl
 decide
 exact fun n => Ck (n := n) (x := "tuple") (by decide)
 rfl
 rfl
 rfl
 refine Au ?_ ?_ ?_ ?_ ?_ ?_
 rfl
 rfl
 exact hu
 exact sv nv
 exact Af
 intro _ _; rfl
 exact Dn
 intro _; rfl
 refine Ac ?_ ?_
 refine cj ?_ ?_ ?_ T.J12 T.J11 T.J13
 exact cg
 exact hr.hd
 rfl
 exact Ae
 exact Ae
 refine Ac ?_ ?_
 refine Bm ?_
 refine Ao ih.i_6 hr (by rfl) T.m_6 T.f_6.kp T.b_6 .nil An Am (ai rfl) ?_
 refine aa (sv afa) ?_
 refine aa ?_ ?_
 refine Au ?_ ?_ ?_ ?_ ?_ ?_
 rfl
 rfl
 exact hu
 exact sv nv
 exact Af
 intro _ _; rfl
 refine aa ?_ ?_
 refine Mh ?_ ?_ ?_
 rfl
 exact Ai (aa ah ae)
 refine Cp ?_ ?_ T.J8 ?_
 rfl
 rfl
 refine aa ?_ ?_
 refine Au ?_ ?_ ?_ ?_ ?_ ?_
 rfl
 rfl
 exact hu
 exact sv nv
 exact Af
 intro _ _; rfl
 exact ae
 refine aa (sv afb) ?_
 exact ae
 refine Ac (Ap ah) ?_
 exact Ae
theorem ahf : Fj ih 11 ["names", "term", "room"] 3 := by
 refine Az (body' := Ky) T.f_11 Li rfl fun _ _ _ _ _ _ hr => ?_
 have hu := hr.units
 subst hw
 refine Ac ?_ ?_
 refine Be (i := 3) ?_ ?_ ?_ ?_
 exact Li.nd
 rfl
 exact Or.inl Nv
 refine iu (k := 2 * n) (np := 2) T.J9 T.J52 ?_ ?_ T.b_42 ?_ ?_ ?_ ?_
 exact ih.i_42
 exact hr
 exact Am
 exact ai rfl
 exact sv uc
 refine aa ?_ ?_
 refine Au ?_ ?_ ?_ ?_ ?_ ?_
 rfl
 rfl
 exact hu
 exact sv Uc
 exact Af
 intro _ _; rfl
 exact ae
 refine Ac ?_ ?_
 refine Aw ?_ ?_ ?_
 refine qz ?_ ?_ ?_ ?_ ?_
 rfl
 rfl
 exact hu
 exact sv Nv
 exact Ds
 refine Ac ?_ ?_
 refine cj ?_ ?_ ?_ T.J12 T.J11 T.J13
 exact cg
 exact hr.hd
 rfl
 exact Ae
 exact Ae
 refine Ac ?_ ?_
 refine qu (is := [4, 5]) ?_ ?_
 exact sv Nv
 refine Ij ?_ ?_
 rfl
 refine Cu ?_ ?_
 refine di (i := 4) ?_ ?_ ?_
 exact Li.nd
 rfl
 exact Or.inl ud
 refine Cu ?_ ?_
 refine di (i := 5) ?_ ?_ ?_
 exact Li.nd
 rfl
 exact Or.inl Ud
 exact Ii
 refine Ac ?_ ?_
 refine Bm ?_
 refine Ao ih.i_6 hr (by rfl) T.m_6 T.f_6.kp T.b_6 .nil An Am (ai rfl) ?_
 refine aa (sv uc) ?_
 refine aa ?_ ?_
 refine Au ?_ ?_ ?_ ?_ ?_ ?_
 rfl
 rfl
 exact hu
 exact sv Uc
 exact Af
 intro _ _; rfl
 refine aa (sv ud) ?_
 refine aa (sv afc) ?_
 exact ae
 refine Ac (Ap (sv Ud)) ?_
 exact Ae
theorem ahg : Fj ih 12 ["names", "term", "room"] 3 := by
 refine Az (body' := kz) T.f_12 afd rfl fun _ _ _ _ _ _ hr => ?_
 have hu := hr.units
 subst hw
 refine Ac ?_ ?_
 refine Bm ?_
 refine Ao ih.i_6 hr (by rfl) T.m_6 T.f_6.kp T.b_6 .nil An Am (ai rfl) ?_
 refine aa (sv afe) ?_
 refine aa ?_ ?_
 refine Mr ?_ ?_ ?_
 rfl
 exact sv aff
 exact Af
 refine aa (Ai (aa ah (aa ah ae))) ?_
 refine aa (sv afg) ?_
 exact ae
 refine Ac (Ap ah) ?_
 exact Ae
theorem ahh : Fj ih 13 ["names", "term", "room"] 3 := by
 refine Az (body' := Kz) T.f_13 afh rfl fun _ _ _ _ _ _ hr => ?_
 have hu := hr.units
 subst hw
 refine Ac ?_ ?_
 refine Bm ?_
 refine Ao ih.i_6 hr (by rfl) T.m_6 T.f_6.kp T.b_6 .nil An Am (ai rfl) ?_
 refine aa (sv afi) ?_
 refine aa ?_ ?_
 refine Mr ?_ ?_ ?_
 rfl
 exact sv afj
 exact Af
 refine aa (Ai (aa ah (aa ah (aa ah ae)))) ?_
 refine aa (sv afk) ?_
 exact ae
 refine Ac (Ap ah) ?_
 exact Ae
theorem ahi : Fj ih 14 ["names", "statement"] 2 := by
 refine Az (body' := gu) T.f_14 afl rfl fun _ _ _ _ _ _ hr => ?_
 have hu := hr.units
 subst hw
 refine Ac ?_ ?_
 refine zq (C := 2) (C2 := 3) ?_ ?_ ?_ ?_ ?_ T.J11 T.J62 ?_ ?_ ?_ T.J15 T.J20 ?_ ?_
 intro _; rfl
 rfl
 rfl
 rfl
 rfl
 exact ael
 decide
 rfl
 exact yx
 intro pn E0 xe0 hp0 hx0
 refine Ac ?_ ?_
 refine Bm ?_
 refine Ao ih.i_15 hr (by rfl) T.m_15 T.f_15.kp T.b_15 .nil An hx0 (ai rfl) ?_
 refine aa (sv afm) ?_
 refine aa (sv afn) ?_
 refine aa ?_ ?_
 exact iw (by rfl) T.J28.choose_spec.1 T.J28.choose_spec.2 (fun _ _ => by simp [DD.G.Rep, DD.Rep])
 exact ae
 exact Ae
 exact Ae
theorem ahj : Fj ih 15 ["names", "statement", "room"] 3 := by
 refine Az (body' := fc) T.f_15 ue rfl fun _ _ _ _ _ _ hr => ?_
 have hu := hr.units
 subst hw
 refine Ac ?_ ?_
 refine Be (i := 3) ?_ ?_ ?_ ?_
 exact ue.nd
 rfl
 exact Or.inl Jr
 refine Ao ih.i_4 hr (by rfl) T.m_4 T.f_4.kp T.b_4 .nil An Am (ai rfl) ?_
 refine aa (sv jr) ?_
 exact ae
 refine Ac ?_ ?_
 refine Aw ?_ ?_ ?_
 refine PW.pt ?_
 refine Cg ?_ ?_
 refine jm (sv lj) ?_
 exact Af
 refine Cg ?_ ?_
 refine sy ?_ ?_ T.J34 ?_
 rfl
 rfl
 exact sv Jr
 refine dn ?_
 refine Dd ?_ ?_ ?_ ?_
 rfl
 exact hu
 refine Cp ?_ ?_ T.J8 ?_
 rfl
 rfl
 refine aa (sv jr) ?_
 exact ae
 refine Sx ?_ T.J34 ?_ ?_ ?_
 rfl
 rfl
 exact sv Jr
 intro _ _; rfl
 refine Ac ?_ ?_
 refine cj ?_ ?_ ?_ T.J24 T.J15 T.J20
 exact cg
 exact hr.hd
 rfl
 exact Ae
 exact Ae
 refine Ac ?_ ?_
 refine Aw ?_ ?_ ?_
 refine Cc ?_ ?_ ?_ ?_
 rfl
 exact hu
 exact sv Jr
 exact ah
 refine Ac ?_ ?_
 refine Bm ?_
 refine Ao ih.i_15 hr (by rfl) T.m_15 T.f_15.kp T.b_15 .nil An Am (ai rfl) ?_
 refine aa (sv Nw) ?_
 refine aa ?_ ?_
 refine Au ?_ ?_ ?_ ?_ ?_ ?_
 rfl
 rfl
 exact hu
 exact sv jr
 exact Af
 intro _ _; rfl
 refine aa ?_ ?_
 refine Gi (sv lj) ?_
 exact Af
 exact ae
 exact Ae
 refine Ac ?_ ?_
 refine Aw ?_ ?_ ?_
 refine zl ?_ ?_ ?_ ?_ ?_
 rfl
 rfl
 exact hu
 exact sv Jr
 exact Ai (aa ah (aa ah ae))
 refine Ac ?_ ?_
 refine Bm ?_
 refine Ao ih.i_16 hr (by rfl) T.m_16 T.f_16.kp T.b_16 .nil An Am (ai rfl) ?_
 refine aa (sv Nw) ?_
 refine aa ?_ ?_
 refine Au ?_ ?_ ?_ ?_ ?_ ?_
 rfl
 rfl
 exact hu
 exact sv jr
 exact Af
 intro _ _; rfl
 refine aa ?_ ?_
 refine Gi (sv lj) ?_
 exact Af
 exact ae
 exact Ae
 refine Ac ?_ ?_
 refine Bm ?_
 refine Ao ih.i_17 hr (by rfl) T.m_17 T.f_17.kp T.b_17 .nil An Am (ai rfl) ?_
 refine aa (sv Nw) ?_
 refine aa (sv jr) ?_
 refine aa ?_ ?_
 refine Gi (sv lj) ?_
 exact Af
 exact ae
 exact Ae
 exact Ae
 exact Ae
theorem ahk : Fj ih 16 ["names", "statements", "room"] 3 := by
 refine Az (body' := Gu) T.f_16 Ue rfl fun _ _ _ _ _ _ hr => ?_
 have hu := hr.units
 subst hw
 refine Ac ?_ ?_
 refine Aw ?_ ?_ ?_
 refine Bo ?_
 refine bp ?_ ?_ ?_ ?_
 rfl
 refine Ci ?_ ?_ ?_ ?_ T.J3 ?_ T.J16 ?_ ?_
 rfl
 decide
 exact fun n => Ck (n := n) (x := "tuple") (by decide)
 rfl
 rfl
 rfl
 exact sv uf
 exact Dn
 intro _; rfl
 refine Ac ?_ ?_
 refine cj ?_ ?_ ?_ T.J24 T.J15 T.J20
 exact cg
 exact hr.hd
 rfl
 exact Ae
 exact Ae
 refine Ac ?_ ?_
 refine qx (is := [3]) ?_ ?_ ?_ ?_ ?_ ?_
 rfl
 exact PassesOwn.leaving
 rfl
 exact sv uf
 refine df Ue.nd ?_ ?_
 rfl
 exact Or.inl ug
 refine Ac ?_ ?_
 refine Bm ?_
 refine Ao ih.i_15 hr (by rfl) T.m_15 T.f_15.kp T.b_15 .nil An Am (ai rfl) ?_
 refine aa (sv afo) ?_
 refine aa (sv ug) ?_
 refine aa (sv afp) ?_
 exact ae
 exact Ae
 exact Ae
theorem ahl : Fj ih 17 ["names", "atom", "room"] 3 := by
 refine Az (body' := gv) T.f_17 Ug rfl fun _ _ _ _ _ _ hr => ?_
 have hu := hr.units
 subst hw
 refine Ac ?_ ?_
 refine Be (i := 3) ?_ ?_ ?_ ?_
 exact Ug.nd
 rfl
 exact Or.inl Lj
 refine Ao ih.i_5 hr (by rfl) T.m_5 T.f_5.kp T.b_5 .nil An Am (ai rfl) ?_
 refine aa (sv uh) ?_
 refine aa ?_ ?_
 refine Au ?_ ?_ ?_ ?_ ?_ ?_
 rfl
 rfl
 exact hu
 exact sv Nx
 exact Af
 intro _ _; rfl
 refine aa (sv Uh) ?_
 exact ae
 refine Ac ?_ ?_
 refine Aw ?_ ?_ ?_
 refine Dd ?_ ?_ ?_ ?_
 rfl
 exact hu
 refine Ao ih.i_5 hr (by rfl) T.m_5 T.f_5.kp T.b_5 .nil An Am (ai rfl) ?_
 refine aa (sv uh) ?_
 refine aa ?_ ?_
 refine Au ?_ ?_ ?_ ?_ ?_ ?_
 rfl
 rfl
 exact hu
 exact sv Nx
 exact Af
 intro _ _; rfl
 refine aa (sv Uh) ?_
 exact ae
 exact sv Lj
 refine Ac ?_ ?_
 refine cj ?_ ?_ ?_ T.J24 T.J15 T.J20
 exact cg
 exact hr.hd
 rfl
 exact Ae
 exact Ae
 refine Ac ?_ ?_
 refine Aw ?_ ?_ ?_
 refine PW.pt ?_
 refine Jm ?_ ?_
 refine Dd ?_ ?_ ?_ ?_
 rfl
 exact hu
 exact sv Lj
 exact ah
 refine km ?_
 refine Dd ?_ ?_ ?_ ?_
 rfl
 exact hu
 refine Ai ?_
 refine aa (sv Lj) ?_
 refine aa ?_ ?_
 refine Au ?_ ?_ ?_ ?_ ?_ ?_
 rfl
 rfl
 exact hu
 exact sv Nx
 exact Af
 intro _ _; rfl
 exact ae
 exact Ai (aa ah (aa ah ae))
 refine Ac ?_ ?_
 refine cj ?_ ?_ ?_ T.J24 T.J15 T.J20
 exact cg
 exact hr.hd
 rfl
 exact Ae
 exact Ae
 exact Ae
theorem ahm : Fj ih 18 ["self", "names"] 2 := by
 refine Az (body' := Tf) T.f_18 afq rfl fun _ _ _ _ _ _ hr => ?_
 have hu := hr.units
 subst hw
 refine Ac ?_ ?_
 refine Dj T.J4 T.J36 (sv ny) ?_
 exact sv afr
 refine Ac ?_ ?_
 refine Dj T.J4 T.J14 (sv ny) ?_
 exact Br ae
 refine Ac ?_ ?_
 refine Dj T.J4 T.J25 (sv ny) ?_
 exact Ds
 exact Ae
theorem ahn : Fj ih 19 ["self", "statement"] 2 := by
 refine Az (body' := Iz) T.f_19 afs rfl fun _ _ _ _ _ _ hr => ?_
 have hu := hr.units
 subst hw
 refine Ac ?_ ?_
 refine Bm ?_
 refine Ao ih.i_14 hr (by rfl) T.m_14 T.f_14.kp T.b_14 .nil An Am (ai rfl) ?_
 refine aa (Em T.J4 T.J36 (sv Ny)) ?_
 refine aa (sv ui) ?_
 exact ae
 refine Ac ?_ ?_
 refine Bm ?_
 refine Hg ?_ ?_ ?_
 rfl
 exact Em T.J4 T.J14 (sv Ny)
 exact sv ui
 refine Ac ?_ ?_
 refine Dj T.J4 T.J25 (sv Ny) ?_
 exact Ds
 exact Ae
theorem aho : Fj ih 20 ["self", "many"] 2 := by
 refine Az (body' := ja) T.f_20 aft rfl fun _ _ _ _ _ _ hr => ?_
 have hu := hr.units
 subst hw
 refine Ac ?_ ?_
 refine Aw ?_ ?_ ?_
 refine Bo ?_
 refine Ra (c1 := .le) (c2 := .le) ?_ ?_ ?_ ?_ ?_ ?_
 rfl
 rfl
 exact hu
 exact Af
 exact sv Ui
 refine Cp ?_ ?_ T.J8 ?_
 rfl
 rfl
 refine aa (Em T.J4 T.J14 (sv js)) ?_
 exact ae
 refine Ac ?_ ?_
 refine cj ?_ ?_ ?_ T.J56 T.J27 T.J57
 exact cg
 exact hr.hd
 rfl
 exact Ae
 exact Ae
 refine Ac ?_ ?_
 refine Dj T.J4 T.J14 (sv js) ?_
 refine Kn ?_ ?_ ?_
 rfl
 exact Em T.J4 T.J14 (sv js)
 refine Gi ?_ ?_
 refine Cp ?_ ?_ T.J8 ?_
 rfl
 rfl
 refine aa (Em T.J4 T.J14 (sv js)) ?_
 exact ae
 exact sv Ui
 refine Ac ?_ ?_
 refine Dj T.J4 T.J25 (sv js) ?_
 exact Ds
 exact Ae
theorem ahp : Fj ih 21 ["self"] 1 := by
 refine Az (body' := la) T.f_21 afu rfl fun _ _ _ _ _ _ hr => ?_
 have hu := hr.units
 subst hw
 refine Ac ?_ ?_
 refine Ap ?_
 refine Iq ?_ ?_ T.J10 ?_
 rfl
 rfl
 refine aa (Em T.J4 T.J14 (sv afv)) ?_
 exact ae
 exact Ae
theorem ahq : Fj ih 23 ["thing"] 1 := by
 refine Az (body' := Tg) T.f_23 afw rfl fun _ _ _ _ _ _ hr => ?_
 have hu := hr.units
 subst hw
 refine Ac ?_ ?_
 refine Aw ?_ ?_ ?_
 refine PW.pt ?_
 refine Cg ?_ ?_
 refine Bo ?_
 refine bp ?_ ?_ ?_ ?_
 rfl
 refine Ci ?_ ?_ ?_ ?_ T.J3 ?_ T.J22 ?_ ?_
 rfl
 decide
 exact fun n => Ck (n := n) (x := "str") (by decide)
 rfl
 rfl
 rfl
 exact sv nz
 exact Dn
 intro _; rfl
 refine dn ?_
 refine Bo ?_
 refine Ra (c1 := .le) (c2 := .le) ?_ ?_ ?_ ?_ ?_ ?_
 rfl
 rfl
 exact hu
 exact Af
 refine Cp ?_ ?_ T.J8 ?_
 rfl
 rfl
 refine aa (sv nz) ?_
 exact ae
 exact iw (by rfl) T.J30.choose_spec.1 T.J30.choose_spec.2 (fun _ _ => by simp [DD.G.Rep, DD.Rep])
 refine Ac (Ap Dr) ?_
 exact Ae
 exact Ae
 refine Ac ?_ ?_
 refine Ap ?_
 refine jn ?_ ?_ ?_ T.J21 ?_
 rfl
 rfl
 rfl
 refine aa ?_ ?_
 refine Iu (cl := []) (N := ["sign"]) (nl := 1) (fv := []) (tgs := [0]) (one := true) (k := 3) ?_ ?_ ?_ ?_ ?_ ?_ ?_ ?_ ?_ ?_ ?_ ?_ ?_ ?_
 rfl
 rfl
 rfl
 decide
 decide
 rfl
 refine dy trivial ?_
 rfl
 rfl
 exact Dy trivial
 decide
 exact aan (sv nz)
 intro L s0 H0 fp pn
 refine df ?_ ?_ ?_ ?_
 show List.Nodup (["sign"] : List Str); decide
 rfl
 exact Or.inl rfl
 exact Or.inr rfl
 intro L s0 H0 fp pn
 exact Dx
 intro L s0 H0 fp pn
 refine qp ?_ ?_ ?_ ?_ ?_
 rfl
 rfl
 exact hu
 exact Cs 0 (pv 0)
 exact iw (by rfl) T.J29.choose_spec.1 T.J29.choose_spec.2 (fun _ _ => by simp [DD.G.Rep, DD.Rep])
 exact ae
 exact Ae
theorem ahr : Fj ih 24 ["thing"] 1 := by
 refine Az (body' := Th) T.f_24 afx rfl fun _ _ _ _ _ _ hr => ?_
 have hu := hr.units
 subst hw
 refine Ac ?_ ?_
 refine Ap ?_
 refine Fo ?_ ?_
 refine Ci ?_ ?_ ?_ ?_ T.J3 ?_ T.J16 ?_ ?_
 rfl
 decide
 exact fun n => Ck (n := n) (x := "tuple") (by decide)
 rfl
 rfl
 rfl
 exact sv Nz
 refine Fo ?_ ?_
 refine Mm ?_ ?_ ?_ ?_
 rfl
 exact hu
 refine Cp ?_ ?_ T.J8 ?_
 rfl
 rfl
 refine aa (sv Nz) ?_
 exact ae
 exact Af
 refine gj ?_
 refine Ao ih.i_23 hr (by rfl) T.m_23 T.f_23.kp T.b_23 .nil An Am (ai rfl) ?_
 refine aa ?_ ?_
 refine Au ?_ ?_ ?_ ?_ ?_ ?_
 rfl
 rfl
 exact hu
 exact sv Nz
 exact Af
 intro _ _; rfl
 exact ae
 exact Ae
theorem ahs : Fj ih 25 ["thing"] 1 := by
 refine Az (body' := Ti) T.f_25 afy rfl fun _ _ _ _ _ _ hr => ?_
 have hu := hr.units
 subst hw
 refine Ac ?_ ?_
 refine Ap ?_
 refine Fo ?_ ?_
 refine Ci ?_ ?_ ?_ ?_ T.J3 ?_ T.J22 ?_ ?_
 rfl
 decide
 exact fun n => Ck (n := n) (x := "str") (by decide)
 rfl
 rfl
 rfl
 exact sv uj
 refine gj ?_
 refine qp ?_ ?_ ?_ ?_ ?_
 rfl
 rfl
 exact hu
 exact sv uj
 exact Ai (aa ah (aa ah ae))
 exact Ae
theorem aht : Fj ih 26 ["thing"] 1 := by
 refine Az (body' := tj) T.f_26 afz rfl fun _ _ _ _ _ _ hr => ?_
 have hu := hr.units
 subst hw
 refine Ac ?_ ?_
 refine Ap ?_
 refine Fo ?_ ?_
 refine Ci ?_ ?_ ?_ ?_ T.J3 ?_ T.J10 ?_ ?_
 rfl
 decide
 exact fun n => Ck (n := n) (x := "list") (by decide)
 rfl
 rfl
 rfl
 exact sv Uj
 refine gj ?_
 refine jn ?_ ?_ ?_ T.J21 ?_
 rfl
 rfl
 rfl
 refine aa ?_ ?_
 refine Iu (cl := []) (N := ["part"]) (nl := 1) (fv := []) (tgs := [0]) (one := true) (k := 0) ?_ ?_ ?_ ?_ ?_ ?_ ?_ ?_ ?_ ?_ ?_ ?_ ?_ ?_
 rfl
 rfl
 rfl
 decide
 decide
 rfl
 refine dy trivial ?_
 rfl
 rfl
 exact Dy trivial
 decide
 refine fq ?_ ?_
 rfl
 exact sv Uj
 intro L s0 H0 fp pn
 refine df ?_ ?_ ?_ ?_
 show List.Nodup (["part"] : List Str); decide
 rfl
 exact Or.inl rfl
 exact Or.inr rfl
 intro L s0 H0 fp pn
 exact Dx
 intro L s0 H0 fp pn
 refine Ao ih.i_23 hr (by rfl) T.m_23 T.f_23.kp T.b_23 .nil An ku (ai rfl) ?_
 refine aa (Cs 0 (pv 0)) ?_
 exact ae
 exact ae
 exact Ae
theorem ahu : Fj ih 27 ["thing"] 1 := by
 refine Az (body' := Tj) T.f_27 aga rfl fun _ _ _ _ _ _ hr => ?_
 have hu := hr.units
 subst hw
 refine Ac ?_ ?_
 refine Aw ?_ ?_ ?_
 refine PW.pt ?_
 refine Cg ?_ ?_
 refine Bo ?_
 refine bp ?_ ?_ ?_ ?_
 rfl
 refine Ao ih.i_24 hr (by rfl) T.m_24 T.f_24.kp T.b_24 .nil An Am (ai rfl) ?_
 refine aa (sv Jc) ?_
 exact ae
 exact Eo
 intro _; rfl
 refine Cg ?_ ?_
 refine Bo ?_
 refine bp ?_ ?_ ?_ ?_
 rfl
 refine Ao ih.i_1 hr (by rfl) T.m_1 T.f_1.kp T.b_1 .nil An Am (ai rfl) ?_
 refine aa ?_ ?_
 refine Au ?_ ?_ ?_ ?_ ?_ ?_
 rfl
 rfl
 exact hu
 exact sv Jc
 exact Af
 intro _ _; rfl
 exact ae
 exact Eo
 intro _; rfl
 refine dn ?_
 refine Bo ?_
 refine bp ?_ ?_ ?_ ?_
 rfl
 refine Ao ih.i_1 hr (by rfl) T.m_1 T.f_1.kp T.b_1 .nil An Am (ai rfl) ?_
 refine aa ?_ ?_
 refine Au ?_ ?_ ?_ ?_ ?_ ?_
 rfl
 rfl
 exact hu
 exact sv Jc
 exact Af
 intro _ _; rfl
 exact ae
 exact Eo
 intro _; rfl
 refine Ac (Ap Dr) ?_
 exact Ae
 exact Ae
 refine Ac ?_ ?_
 refine Ap ?_
 refine ra (c1 := .le) (c2 := .le) ?_ ?_ ?_ ?_ ?_ ?_
 rfl
 rfl
 exact hu
 refine Au ?_ ?_ ?_ ?_ ?_ ?_
 rfl
 rfl
 exact hu
 exact sv Jc
 exact Af
 intro _ _; rfl
 refine Au ?_ ?_ ?_ ?_ ?_ ?_
 rfl
 rfl
 exact hu
 exact sv Jc
 exact Af
 intro _ _; rfl
 refine bq ?_ ?_
 refine Au ?_ ?_ ?_ ?_ ?_ ?_
 rfl
 rfl
 exact hu
 exact sv Jc
 exact Af
 intro _ _; rfl
 exact iw (by rfl) T.J33.choose_spec.1 T.J33.choose_spec.2 (fun _ _ => by simp [DD.G.Rep, DD.Rep])
 exact Ae
theorem ahv : Fj ih 28 ["thing"] 1 := by
 refine Az (body' := tm) T.f_28 agb rfl fun _ _ _ _ _ _ hr => ?_
 have hu := hr.units
 subst hw
 refine Ac ?_ ?_
 refine Aw ?_ ?_ ?_
 refine PW.pt ?_
 refine Cg ?_ ?_
 refine Bo ?_
 refine bp ?_ ?_ ?_ ?_
 rfl
 refine Ao ih.i_24 hr (by rfl) T.m_24 T.f_24.kp T.b_24 .nil An Am (ai rfl) ?_
 refine aa (sv Js) ?_
 exact ae
 exact Eo
 intro _; rfl
 refine Cg ?_ ?_
 refine Bo ?_
 refine bp ?_ ?_ ?_ ?_
 rfl
 refine Ci ?_ ?_ ?_ ?_ T.J3 ?_ T.J16 ?_ ?_
 rfl
 decide
 exact fun n => Ck (n := n) (x := "tuple") (by decide)
 rfl
 rfl
 rfl
 refine Au ?_ ?_ ?_ ?_ ?_ ?_
 rfl
 rfl
 exact hu
 exact sv Js
 exact Af
 intro _ _; rfl
 exact Dn
 intro _; rfl
 refine dn ?_
 refine Bo ?_
 refine bp ?_ ?_ ?_ ?_
 rfl
 refine Ao ih.i_25 hr (by rfl) T.m_25 T.f_25.kp T.b_25 .nil An Am (ai rfl) ?_
 refine aa ?_ ?_
 refine Au ?_ ?_ ?_ ?_ ?_ ?_
 rfl
 rfl
 exact hu
 exact sv Js
 exact Af
 intro _ _; rfl
 exact ae
 exact Eo
 intro _; rfl
 refine Ac (Ap Dr) ?_
 exact Ae
 exact Ae
 refine Ac ?_ ?_
 refine Ap ?_
 refine Fo ?_ ?_
 refine ra (c1 := .le) (c2 := .le) ?_ ?_ ?_ ?_ ?_ ?_
 rfl
 rfl
 exact hu
 exact Af
 refine Cp ?_ ?_ T.J8 ?_
 rfl
 rfl
 refine aa ?_ ?_
 refine Au ?_ ?_ ?_ ?_ ?_ ?_
 rfl
 rfl
 exact hu
 exact sv Js
 exact Af
 intro _ _; rfl
 exact ae
 exact iw (by rfl) T.J31.choose_spec.1 T.J31.choose_spec.2 (fun _ _ => by simp [DD.G.Rep, DD.Rep])
 refine gj ?_
 refine jn ?_ ?_ ?_ T.J21 ?_
 rfl
 rfl
 rfl
 refine aa ?_ ?_
 refine Iu (cl := []) (N := ["part"]) (nl := 1) (fv := []) (tgs := [0]) (one := true) (k := 1) ?_ ?_ ?_ ?_ ?_ ?_ ?_ ?_ ?_ ?_ ?_ ?_ ?_ ?_
 rfl
 rfl
 rfl
 decide
 decide
 rfl
 refine dy trivial ?_
 rfl
 rfl
 exact Dy trivial
 decide
 refine aah ?_ ?_
 rfl
 refine Au ?_ ?_ ?_ ?_ ?_ ?_
 rfl
 rfl
 exact hu
 exact sv Js
 exact Af
 intro _ _; rfl
 intro L s0 H0 fp pn
 refine df ?_ ?_ ?_ ?_
 show List.Nodup (["part"] : List Str); decide
 rfl
 exact Or.inl rfl
 exact Or.inr rfl
 intro L s0 H0 fp pn
 exact Dx
 intro L s0 H0 fp pn
 refine Ao ih.i_25 hr (by rfl) T.m_25 T.f_25.kp T.b_25 .nil An ku (ai rfl) ?_
 refine aa (Cs 0 (pv 0)) ?_
 exact ae
 exact ae
 exact Ae
theorem ahw : Fj ih 29 ["wholes"] 1 := by
 refine Az (body' := Tn) T.f_29 jd rfl fun _ _ _ _ _ _ hr => ?_
 have hu := hr.units
 subst hw
 refine Ac ?_ ?_
 refine Aw ?_ ?_ ?_
 refine PW.pt ?_
 refine Cg ?_ ?_
 refine Bo ?_
 refine bp ?_ ?_ ?_ ?_
 rfl
 refine Ci ?_ ?_ ?_ ?_ T.J3 ?_ T.J10 ?_ ?_
 rfl
 decide
 exact fun n => Ck (n := n) (x := "list") (by decide)
 rfl
 rfl
 rfl
 exact sv Oa
 exact Dn
 intro _; rfl
 refine dn ?_
 refine Bo ?_
 refine bp ?_ ?_ ?_ ?_
 rfl
 refine jn ?_ ?_ ?_ T.J21 ?_
 rfl
 rfl
 rfl
 refine aa ?_ ?_
 refine Iu (cl := []) (N := ["row"]) (nl := 1) (fv := []) (tgs := [0]) (one := true) (k := 0) ?_ ?_ ?_ ?_ ?_ ?_ ?_ ?_ ?_ ?_ ?_ ?_ ?_ ?_
 rfl
 rfl
 rfl
 decide
 decide
 rfl
 refine dy trivial ?_
 rfl
 rfl
 exact Dy trivial
 decide
 refine fq ?_ ?_
 rfl
 exact sv Oa
 intro L s0 H0 fp pn
 refine df ?_ ?_ ?_ ?_
 show List.Nodup (["row"] : List Str); decide
 rfl
 exact Or.inl rfl
 exact Or.inr rfl
 intro L s0 H0 fp pn
 exact Dx
 intro L s0 H0 fp pn
 refine Ao ih.i_27 hr (by rfl) T.m_27 T.f_27.kp T.b_27 .nil An ku (ai rfl) ?_
 refine aa (Cs 0 (pv 0)) ?_
 exact ae
 exact ae
 exact Rq
 intro _; rfl
 refine Ac ?_ ?_
 refine cj ?_ ?_ ?_ T.J18 T.J17 T.J19
 exact cg
 exact hr.hd
 rfl
 exact Ae
 exact Ae
 refine Ac ?_ ?_
 refine Be (i := 1) ?_ ?_ ?_ ?_
 exact jd.nd
 rfl
 exact Or.inl Ob
 exact Af
 refine Ac ?_ ?_
 refine Qw (is := [2, 3, 4]) ?_ ?_ ?_ ?_ ?_ ?_
 rfl
 exact PassesOwn.leaving
 rfl
 exact sv Oa
 refine Ij ?_ ?_
 rfl
 refine Cu ?_ ?_
 refine di (i := 2) ?_ ?_ ?_
 exact jd.nd
 rfl
 exact Or.inl agc
 refine Cu ?_ ?_
 refine di (i := 3) ?_ ?_ ?_
 exact jd.nd
 rfl
 exact Or.inl uk
 refine Cu ?_ ?_
 refine di (i := 4) ?_ ?_ ?_
 exact jd.nd
 rfl
 exact Or.inl Uk
 exact Ii
 refine Ac ?_ ?_
 refine Zx (i := 1) ?_ ?_ ?_ ?_
 exact jd.nd
 rfl
 exact Or.inl Ob
 refine bq ?_ ?_
 refine Gi (sv Uk) ?_
 exact sv uk
 exact Af
 exact Ae
 refine Ac ?_ ?_
 refine Aw ?_ ?_ ?_
 refine Kj (sv Ob) ?_
 exact iw (by rfl) T.J32.choose_spec.1 T.J32.choose_spec.2 (fun _ _ => by simp [DD.G.Rep, DD.Rep])
 refine Ac ?_ ?_
 refine cj ?_ ?_ ?_ T.J18 T.J17 T.J19
 exact cg
 exact hr.hd
 rfl
 exact Ae
 exact Ae
 exact Ae
theorem ahx : Fj ih 30 ["functions"] 1 := by
 refine Az (body' := To) T.f_30 agd rfl fun _ _ _ _ _ _ hr => ?_
 have hu := hr.units
 subst hw
 refine Ac ?_ ?_
 refine Aw ?_ ?_ ?_
 refine PW.pt ?_
 refine Cg ?_ ?_
 refine Bo ?_
 refine bp ?_ ?_ ?_ ?_
 rfl
 refine Ci ?_ ?_ ?_ ?_ T.J3 ?_ T.J10 ?_ ?_
 rfl
 decide
 exact fun n => Ck (n := n) (x := "list") (by decide)
 rfl
 rfl
 rfl
 exact sv Ul
 exact Dn
 intro _; rfl
 refine dn ?_
 refine Bo ?_
 refine bp ?_ ?_ ?_ ?_
 rfl
 refine jn ?_ ?_ ?_ T.J21 ?_
 rfl
 rfl
 rfl
 refine aa ?_ ?_
 refine Iu (cl := []) (N := ["row"]) (nl := 1) (fv := []) (tgs := [0]) (one := true) (k := 0) ?_ ?_ ?_ ?_ ?_ ?_ ?_ ?_ ?_ ?_ ?_ ?_ ?_ ?_
 rfl
 rfl
 rfl
 decide
 decide
 rfl
 refine dy trivial ?_
 rfl
 rfl
 exact Dy trivial
 decide
 refine fq ?_ ?_
 rfl
 exact sv Ul
 intro L s0 H0 fp pn
 refine df ?_ ?_ ?_ ?_
 show List.Nodup (["row"] : List Str); decide
 rfl
 exact Or.inl rfl
 exact Or.inr rfl
 intro L s0 H0 fp pn
 exact Dx
 intro L s0 H0 fp pn
 refine Ao ih.i_28 hr (by rfl) T.m_28 T.f_28.kp T.b_28 .nil An ku (ai rfl) ?_
 refine aa (Cs 0 (pv 0)) ?_
 exact ae
 exact ae
 exact Rq
 intro _; rfl
 refine Ac ?_ ?_
 refine cj ?_ ?_ ?_ T.J18 T.J17 T.J19
 exact cg
 exact hr.hd
 rfl
 exact Ae
 exact Ae
 exact Ae
theorem ahy : Fj ih 31 ["names"] 1 := by
 refine Az (body' := Tp) T.f_31 age rfl fun _ _ _ _ _ _ hr => ?_
 have hu := hr.units
 subst hw
 refine Ac ?_ ?_
 refine Aw ?_ ?_ ?_
 refine Bo ?_
 refine bp ?_ ?_ ?_ ?_
 rfl
 refine Ao ih.i_26 hr (by rfl) T.m_26 T.f_26.kp T.b_26 .nil An Am (ai rfl) ?_
 refine aa (sv agf) ?_
 exact ae
 exact Eo
 intro _; rfl
 refine Ac ?_ ?_
 refine cj ?_ ?_ ?_ T.J18 T.J17 T.J19
 exact cg
 exact hr.hd
 rfl
 exact Ae
 exact Ae
 exact Ae
theorem ahz : Fj ih 32 ["rows"] 1 := by
 refine Az (body' := tq) T.f_32 agg rfl fun _ _ _ _ _ _ hr => ?_
 have hu := hr.units
 subst hw
 refine Ac ?_ ?_
 refine Ap ?_
 refine Iu (cl := []) (N := ["row"]) (nl := 1) (fv := []) (tgs := [0]) (one := true) (k := 0) ?_ ?_ ?_ ?_ ?_ ?_ ?_ ?_ ?_ ?_ ?_ ?_ ?_ ?_
 rfl
 rfl
 rfl
 decide
 decide
 rfl
 refine dy trivial ?_
 rfl
 rfl
 exact Dy trivial
 decide
 refine fq ?_ ?_
 rfl
 exact sv agh
 intro L s0 H0 fp pn
 refine df ?_ ?_ ?_ ?_
 show List.Nodup (["row"] : List Str); decide
 rfl
 exact Or.inl rfl
 exact Or.inr rfl
 intro L s0 H0 fp pn
 exact Dx
 intro L s0 H0 fp pn
 refine Au ?_ ?_ ?_ ?_ ?_ ?_
 rfl
 rfl
 exact hu
 exact Cs 0 (pv 0)
 exact Af
 intro _ _; rfl
 exact Ae
theorem aia : Fj ih 33 ["names"] 1 := by
 refine Az (body' := Tq) T.f_33 agi rfl fun _ _ _ _ _ _ hr => ?_
 have hu := hr.units
 subst hw
 refine Ac ?_ ?_
 refine Aw ?_ ?_ ?_
 refine Dd ?_ ?_ ?_ ?_
 rfl
 exact hu
 refine abd ?_ ?_ ?_ T.J8 ?_ T.J66 ?_
 rfl
 rfl
 rfl
 rfl
 exact sv um
 refine Cp ?_ ?_ T.J8 ?_
 rfl
 rfl
 refine aa (sv um) ?_
 exact ae
 refine Ac ?_ ?_
 refine cj ?_ ?_ ?_ T.J18 T.J17 T.J19
 exact cg
 exact hr.hd
 rfl
 exact Ae
 exact Ae
 exact Ae
theorem aib : Fj ih 34 ["self", "numbers", "wholes", "things", "functions", "arrays"] 6 := by
 refine Az (body' := Ts) T.f_34 Um rfl fun _ _ _ _ _ _ hr => ?_
 have hu := hr.units
 subst hw
 refine Ac ?_ ?_
 refine qx (is := [6]) ?_ ?_ ?_ ?_ ?_ ?_
 rfl
 exact PassesOwn.leaving
 rfl
 refine Ai ?_
 refine aa (sv Lk) ?_
 refine aa (sv ll) ?_
 refine aa (sv Lm) ?_
 exact ae
 refine df Um.nd ?_ ?_
 rfl
 exact Or.inl uo
 refine Ac ?_ ?_
 refine Bm ?_
 refine Ao ih.i_31 hr (by rfl) T.m_31 T.f_31.kp T.b_31 .nil An Am (ai rfl) ?_
 refine aa (sv uo) ?_
 exact ae
 exact Ae
 refine Ac ?_ ?_
 refine Bm ?_
 refine Ao ih.i_29 hr (by rfl) T.m_29 T.f_29.kp T.b_29 .nil An Am (ai rfl) ?_
 refine aa (sv jt) ?_
 exact ae
 refine Ac ?_ ?_
 refine Bm ?_
 refine Ao ih.i_30 hr (by rfl) T.m_30 T.f_30.kp T.b_30 .nil An Am (ai rfl) ?_
 refine aa (sv Ll) ?_
 exact ae
 refine Ac ?_ ?_
 refine Bm ?_
 refine Ao ih.i_33 hr (by rfl) T.m_33 T.f_33.kp T.b_33 .nil An Am (ai rfl) ?_
 refine aa ?_ ?_
 refine bq ?_ ?_
 refine bq ?_ ?_
 refine bq ?_ ?_
 refine bq (sv Lk) ?_
 refine Ao ih.i_32 hr (by rfl) T.m_32 T.f_32.kp T.b_32 .nil An Am (ai rfl) ?_
 refine aa (sv jt) ?_
 exact ae
 exact sv ll
 refine Ao ih.i_32 hr (by rfl) T.m_32 T.f_32.kp T.b_32 .nil An Am (ai rfl) ?_
 refine aa (sv Ll) ?_
 exact ae
 exact sv Lm
 exact ae
 refine Ac ?_ ?_
 refine Dj T.J9 T.J49 (sv Fc) ?_
 refine Iq ?_ ?_ T.J10 ?_
 rfl
 rfl
 refine aa (sv Lk) ?_
 exact ae
 refine Ac ?_ ?_
 refine Dj T.J9 T.J51 (sv Fc) ?_
 refine Iq ?_ ?_ T.J10 ?_
 rfl
 rfl
 refine aa (sv jt) ?_
 exact ae
 refine Ac ?_ ?_
 refine Dj T.J9 T.J50 (sv Fc) ?_
 refine Iq ?_ ?_ T.J10 ?_
 rfl
 rfl
 refine aa (sv ll) ?_
 exact ae
 refine Ac ?_ ?_
 refine Dj T.J9 T.J47 (sv Fc) ?_
 refine Iq ?_ ?_ T.J10 ?_
 rfl
 rfl
 refine aa (sv Ll) ?_
 exact ae
 refine Ac ?_ ?_
 refine Dj T.J9 T.J46 (sv Fc) ?_
 refine Iq ?_ ?_ T.J10 ?_
 rfl
 rfl
 refine aa (sv Lm) ?_
 exact ae
 refine Ac ?_ ?_
 refine Dj T.J9 T.J48 (sv Fc) ?_
 refine jo (cl := []) (N := ["name", "low", "high"]) (nl := 3) (fv := []) (tgs := [0, 1, 2]) (one := false) (k := 0) ?_ ?_ ?_ ?_ ?_ ?_ ?_ ?_ ?_ ?_ ?_ ?_ ?_ ?_ ?_
 rfl
 rfl
 rfl
 decide
 decide
 rfl
 refine dy trivial ?_
 rfl
 rfl
 exact Dy trivial
 decide
 refine fq ?_ ?_
 rfl
 exact sv jt
 intro L s0 H0 fp pn
 refine Ij ?_ ?_
 rfl
 refine Cu ?_ ?_
 refine di (i := 0) ?_ ?_ ?_ ?_
 show List.Nodup (["name", "low", "high"] : List Str); decide
 rfl
 exact Or.inl rfl
 exact Or.inr rfl
 refine Cu ?_ ?_
 refine di (i := 1) ?_ ?_ ?_ ?_
 show List.Nodup (["name", "low", "high"] : List Str); decide
 rfl
 exact Or.inl rfl
 exact Or.inr rfl
 refine Cu ?_ ?_
 refine di (i := 2) ?_ ?_ ?_ ?_
 show List.Nodup (["name", "low", "high"] : List Str); decide
 rfl
 exact Or.inl rfl
 exact Or.inr rfl
 exact Ii
 intro L s0 H0 fp pn
 exact Dx
 intro L s0 H0 fp pn
 exact Cs 0 (pv 0)
 intro L s0 H0 fp pn
 refine Ai ?_
 refine aa (Cs 1 (pv 1)) ?_
 refine aa (Cs 2 (pv 2)) ?_
 exact ae
 refine Ac ?_ ?_
 refine Dj T.J9 T.J37 (sv Fc) ?_
 refine jo (cl := []) (N := ["name", "kinds", "kind"]) (nl := 3) (fv := []) (tgs := [0, 1, 2]) (one := false) (k := 0) ?_ ?_ ?_ ?_ ?_ ?_ ?_ ?_ ?_ ?_ ?_ ?_ ?_ ?_ ?_
 rfl
 rfl
 rfl
 decide
 decide
 rfl
 refine dy trivial ?_
 rfl
 rfl
 exact Dy trivial
 decide
 refine fq ?_ ?_
 rfl
 exact sv Ll
 intro L s0 H0 fp pn
 refine Ij ?_ ?_
 rfl
 refine Cu ?_ ?_
 refine di (i := 0) ?_ ?_ ?_ ?_
 show List.Nodup (["name", "kinds", "kind"] : List Str); decide
 rfl
 exact Or.inl rfl
 exact Or.inr rfl
 refine Cu ?_ ?_
 refine di (i := 1) ?_ ?_ ?_ ?_
 show List.Nodup (["name", "kinds", "kind"] : List Str); decide
 rfl
 exact Or.inl rfl
 exact Or.inr rfl
 refine Cu ?_ ?_
 refine di (i := 2) ?_ ?_ ?_ ?_
 show List.Nodup (["name", "kinds", "kind"] : List Str); decide
 rfl
 exact Or.inl rfl
 exact Or.inr rfl
 exact Ii
 intro L s0 H0 fp pn
 exact Dx
 intro L s0 H0 fp pn
 exact Cs 0 (pv 0)
 intro L s0 H0 fp pn
 refine Ai ?_
 refine aa (Cs 1 (pv 1)) ?_
 refine aa (Cs 2 (pv 2)) ?_
 exact ae
 refine Ac ?_ ?_
 refine Dj T.J9 T.J23 (sv Fc) ?_
 refine jo (cl := []) (N := ["name"]) (nl := 1) (fv := []) (tgs := [0]) (one := true) (k := 0) ?_ ?_ ?_ ?_ ?_ ?_ ?_ ?_ ?_ ?_ ?_ ?_ ?_ ?_ ?_
 rfl
 rfl
 rfl
 decide
 decide
 rfl
 refine dy trivial ?_
 rfl
 rfl
 exact Dy trivial
 decide
 refine fq ?_ ?_
 rfl
 refine bq (sv Lk) ?_
 refine Ao ih.i_32 hr (by rfl) T.m_32 T.f_32.kp T.b_32 .nil An Am (ai rfl) ?_
 refine aa (sv jt) ?_
 exact ae
 intro L s0 H0 fp pn
 refine df ?_ ?_ ?_ ?_
 show List.Nodup (["name"] : List Str); decide
 rfl
 exact Or.inl rfl
 exact Or.inr rfl
 intro L s0 H0 fp pn
 exact Dx
 intro L s0 H0 fp pn
 exact Cs 0 (pv 0)
 intro L s0 H0 fp pn
 exact ah
 refine Ac ?_ ?_
 refine Bm ?_
 refine rq (Em T.J9 T.J23 (sv Fc)) ?_
 refine jo (cl := []) (N := ["name"]) (nl := 1) (fv := []) (tgs := [0]) (one := true) (k := 0) ?_ ?_ ?_ ?_ ?_ ?_ ?_ ?_ ?_ ?_ ?_ ?_ ?_ ?_ ?_
 rfl
 rfl
 rfl
 decide
 decide
 rfl
 refine dy trivial ?_
 rfl
 rfl
 exact Dy trivial
 decide
 refine fq ?_ ?_
 rfl
 exact sv ll
 intro L s0 H0 fp pn
 refine df ?_ ?_ ?_ ?_
 show List.Nodup (["name"] : List Str); decide
 rfl
 exact Or.inl rfl
 exact Or.inr rfl
 intro L s0 H0 fp pn
 exact Dx
 intro L s0 H0 fp pn
 exact Cs 0 (pv 0)
 intro L s0 H0 fp pn
 exact ah
 refine Ac ?_ ?_
 refine Bm ?_
 refine rq (Em T.J9 T.J23 (sv Fc)) ?_
 refine jo (cl := []) (N := ["name"]) (nl := 1) (fv := []) (tgs := [0]) (one := true) (k := 0) ?_ ?_ ?_ ?_ ?_ ?_ ?_ ?_ ?_ ?_ ?_ ?_ ?_ ?_ ?_
 rfl
 rfl
 rfl
 decide
 decide
 rfl
 refine dy trivial ?_
 rfl
 rfl
 exact Dy trivial
 decide
 refine fq ?_ ?_
 rfl
 exact sv Lm
 intro L s0 H0 fp pn
 refine df ?_ ?_ ?_ ?_
 show List.Nodup (["name"] : List Str); decide
 rfl
 exact Or.inl rfl
 exact Or.inr rfl
 intro L s0 H0 fp pn
 exact Dx
 intro L s0 H0 fp pn
 exact Cs 0 (pv 0)
 intro L s0 H0 fp pn
 exact ah
 exact Ae
theorem aic : Fj ih 40 ["self", "name"] 2 := by
 refine Az (body' := La) T.f_40 agj rfl fun _ _ _ _ _ _ hr => ?_
 have hu := hr.units
 subst hw
 refine Ac ?_ ?_
 refine Ap ?_
 refine Qp ?_ ?_ ?_
 refine bp ?_ ?_ ?_ ?_
 rfl
 refine Ci ?_ ?_ ?_ ?_ T.J3 ?_ T.J22 ?_ ?_
 rfl
 decide
 exact fun n => Ck (n := n) (x := "str") (by decide)
 rfl
 rfl
 rfl
 exact sv Uo
 exact Dn
 intro _; rfl
 refine Rp hu (Em T.J9 T.J23 (sv agk)) ?_ ?_
 exact sv Uo
 exact ⟨by rfl, by rfl, by rfl, by rfl⟩
 exact Ds
 exact Ae
theorem aid : Fj ih 42 ["self", "name"] 2 := by
 refine Az (body' := lb) T.f_42 agl rfl fun _ _ _ _ _ _ hr => ?_
 have hu := hr.units
 subst hw
 refine Ac ?_ ?_
 refine Ap ?_
 refine Qp ?_ ?_ ?_
 refine bp ?_ ?_ ?_ ?_
 rfl
 refine Ci ?_ ?_ ?_ ?_ T.J3 ?_ T.J22 ?_ ?_
 rfl
 decide
 exact fun n => Ck (n := n) (x := "str") (by decide)
 rfl
 rfl
 rfl
 exact sv Up
 exact Dn
 intro _; rfl
 refine Rp hu (Em T.J9 T.J37 (sv agm)) ?_ ?_
 exact sv Up
 exact ⟨by rfl, by rfl, by rfl, by rfl⟩
 exact Ds
 exact Ae
theorem aie : Fj ih 44 ["_law_cell", "_law_many"] 2 := by
 refine Az (body' := Ja) T.f_44 Gv rfl fun _ _ _ _ _ _ hr => ?_
 have hu := hr.units
 subst hw
 refine Ac ?_ ?_
 refine Be (i := 2) ?_ ?_ ?_ ?_
 exact Gv.nd
 rfl
 exact Or.inl Jt
 exact Br ae
 refine Ac ?_ ?_
 refine Be (i := 3) ?_ ?_ ?_ ?_
 exact Gv.nd
 rfl
 exact Or.inl Du
 refine Dw (sv Oc) ?_
 exact Af
 refine Ac ?_ ?_
 refine qt PassesOwn.leaving ?_ ?_
 refine PW.pt ?_
 refine Jm ?_ ?_
 refine Cc ?_ ?_ ?_ ?_
 rfl
 exact hu
 refine bo (sv Oc) ?_
 exact Af
 exact Af
 refine Jm ?_ ?_
 refine Kj (sv Du) ?_
 exact Af
 refine km ?_
 refine jm ?_ ?_
 refine Cp ?_ ?_ T.J8 ?_
 rfl
 rfl
 refine aa (sv Jt) ?_
 exact ae
 exact sv Od
 refine Ac ?_ ?_
 refine Bm ?_
 refine Hg ?_ ?_ ?_
 rfl
 exact sv Jt
 refine bo (sv Du) ?_
 exact Qh Af Af
 refine Ac ?_ ?_
 refine Be (i := 3) ?_ ?_ ?_ ?_
 exact Gv.nd
 rfl
 exact Or.inl Du
 refine Dw (sv Du) ?_
 exact Qh Af Af
 exact Ae
 refine Ac ?_ ?_
 refine Be (i := 3) ?_ ?_ ?_ ?_
 exact Gv.nd
 rfl
 exact Or.inl Du
 refine bo ?_ ?_
 refine Mh ?_ ?_ ?_
 rfl
 refine bq ?_ ?_
 refine Dw (sv Oc) ?_
 exact Af
 exact Af
 exact Af
 exact Af
 refine Ac ?_ ?_
 refine Zo (is := [4]) ?_ ?_ ?_ T.J65 ?_ ?_ ?_
 exact PassesOwn.leaving
 rfl
 rfl
 exact sv Od
 refine df Gv.nd ?_ ?_
 rfl
 exact Or.inl uq
 refine Ac ?_ ?_
 refine Be (i := 3) ?_ ?_ ?_ ?_
 exact Gv.nd
 rfl
 exact Or.inl Du
 refine bo ?_ ?_
 refine Mh ?_ ?_ ?_
 rfl
 exact sv Du
 refine bq ?_ ?_
 refine bq ?_ ?_
 refine Dw (sv Du) ?_
 exact Af
 exact Af
 exact sv uq
 exact Af
 refine Ac ?_ ?_
 refine Bm ?_
 refine Hg ?_ ?_ ?_
 rfl
 exact sv Jt
 exact sv Du
 refine Ac ?_ ?_
 refine Be (i := 3) ?_ ?_ ?_ ?_
 exact Gv.nd
 rfl
 exact Or.inl Du
 refine bq (sv Du) ?_
 exact Af
 exact Ae
 refine Ac ?_ ?_
 refine Ap ?_
 refine Kn ?_ ?_ ?_
 rfl
 exact sv Jt
 exact sv Od
 exact Ae
theorem aif : Fj ih 45 [] 0 := by
 refine mr (m := 2 * n + 1) (body' := tu) T.f_45 Uq rfl fun cdv A outer s H E hrm => ?_
 have hr := hrm.mono (show 2 * n ≤ 2 * n + 1 by omega)
 have hu := hr.units
 subst hw
 refine Ac ?_ ?_
 refine Be (i := 0) ?_ ?_ ?_ ?_
 exact Uq.nd
 rfl
 exact Or.inl Oe
 refine Br ?_
 refine aa ?_ ?_
 refine Ai ?_
 refine aa ah ?_
 refine aa (Ai (aa ah ae)) ?_
 exact aa ah ae
 refine aa ?_ ?_
 refine Ai ?_
 refine aa ah ?_
 refine aa (Ai (aa ah ae)) ?_
 exact aa ah ae
 refine aa ?_ ?_
 refine Ai ?_
 refine aa ah ?_
 refine aa (Ai (aa ah (aa ah ae))) ?_
 exact aa ah ae
 exact ae
 refine Ac ?_ ?_
 refine Bm ?_
 refine Hg ?_ ?_ ?_
 rfl
 exact sv Oe
 refine Ai ?_
 refine aa ah ?_
 refine aa (Ai (aa ah (aa ah ae))) ?_
 exact aa ah ae
 refine Ac ?_ ?_
 refine Ap ?_
 refine Mv (k := 2 * n) (np := 6) T.J54 ?_ ?_ ?_ T.J55 T.b_34 ?_ ?_ ?_
 exact ih.i_34
 exact hrm
 rfl
 exact Am
 exact ai rfl
 refine aa (Br (aa ah (aa ah ae))) ?_
 refine aa ?_ ?_
 refine Br ?_
 refine aa (Ai (aa ah (aa Af (aa Af ae)))) ?_
 exact ae
 refine aa (Br (aa ah (aa ah (aa ah ae)))) ?_
 refine aa (sv Oe) ?_
 refine aa (Br (aa ah (aa ah ae))) ?_
 exact ae
 exact Ae
theorem aih : Fj ih 46 ["_law_number"] 1 := by
 refine Az (body' := Lb) T.f_46 agn rfl fun _ _ _ _ _ _ hr => ?_
 have hu := hr.units
 subst hw
 refine Ac ?_ ?_
 refine Aw ?_ ?_ ?_
 refine Cc ?_ ?_ ?_ ?_
 rfl
 exact hu
 refine bo (sv Ln) ?_
 exact Af
 exact Af
 refine Ac ?_ ?_
 refine Ap ?_
 refine Ai ?_
 refine aa ah ?_
 refine aa ?_ ?_
 refine Au ?_ ?_ ?_ ?_ ?_ ?_
 rfl
 rfl
 exact hu
 refine Br ?_
 refine aa ?_ ?_
 refine Ai ?_
 refine aa ?_ ?_
 refine bo ?_ ?_
 refine Dw (sv Ln) ?_
 exact Af
 exact Af
 exact aa Af ae
 refine aa (Ai (aa Af (aa Af ae))) ?_
 refine aa ?_ ?_
 refine Ai ?_
 refine aa (qi Af) ?_
 exact aa Af ae
 refine aa (Ai (aa Af (aa Af ae))) ?_
 exact ae
 refine bo ?_ ?_
 refine Dw (sv Ln) ?_
 exact Af
 exact Af
 intro _ _; rfl
 exact ae
 exact Ae
 exact Ae
 refine Ac ?_ ?_
 refine Ap ?_
 refine Ai ?_
 refine aa ah ?_
 refine aa ?_ ?_
 refine Au ?_ ?_ ?_ ?_ ?_ ?_
 rfl
 rfl
 exact hu
 exact Br (aa ah (aa ah (aa ah ae)))
 refine bo (sv Ln) ?_
 exact Af
 intro _ _; rfl
 exact ae
 exact Ae
theorem aii : Fj ih 47 ["_law_number"] 1 := by
 refine Az (body' := Lc) T.f_47 ur rfl fun _ _ _ _ _ _ hr => ?_
 have hu := hr.units
 subst hw
 refine Ac ?_ ?_
 refine Be (i := 1) ?_ ?_ ?_ ?_
 exact ur.nd
 rfl
 exact Or.inl Of
 refine Ai ?_
 refine aa ah ?_
 refine aa ?_ ?_
 refine Au ?_ ?_ ?_ ?_ ?_ ?_
 rfl
 rfl
 exact hu
 exact Br (aa ah (aa ah (aa ah ae)))
 refine bo (sv Ur) ?_
 exact Af
 intro _ _; rfl
 exact ae
 refine Ac ?_ ?_
 refine Aw ?_ ?_ ?_
 refine Cc ?_ ?_ ?_ ?_
 rfl
 exact hu
 refine bo ?_ ?_
 refine Dw (sv Ur) ?_
 exact Af
 exact Af
 exact Af
 refine Ac ?_ ?_
 refine Ap ?_
 refine Ai ?_
 refine aa ah ?_
 refine aa ah ?_
 refine aa ?_ ?_
 refine Ai ?_
 refine aa (sv Of) ?_
 exact ae
 exact ae
 exact Ae
 exact Ae
 refine Ac (Ap (sv Of)) ?_
 exact Ae
theorem aij : Fj ih 48 ["_law_xs", "_law_k"] 2 := by
 refine Az (body' := Ld) T.f_48 Lo rfl fun _ _ _ _ _ _ hr => ?_
 have hu := hr.units
 subst hw
 refine Ac ?_ ?_
 refine Be (i := 2) ?_ ?_ ?_ ?_
 exact Lo.nd
 rfl
 exact Or.inl Fy
 refine Ao ih.i_46 hr (by rfl) T.m_46 T.f_46.kp T.b_46 .nil An Am (ai rfl) ?_
 refine aa ?_ ?_
 refine Au ?_ ?_ ?_ ?_ ?_ ?_
 rfl
 rfl
 exact hu
 exact sv Fx
 refine bq (sv fy) ?_
 exact Af
 intro _ _; rfl
 exact ae
 refine Ac ?_ ?_
 refine Be (i := 3) ?_ ?_ ?_ ?_
 exact Lo.nd
 rfl
 exact Or.inl gw
 refine bo ?_ ?_
 refine Au ?_ ?_ ?_ ?_ ?_ ?_
 rfl
 rfl
 exact hu
 exact sv Fx
 exact sv fy
 intro _ _; rfl
 exact Af
 refine Ac ?_ ?_
 refine Be (i := 4) ?_ ?_ ?_ ?_
 exact Lo.nd
 rfl
 exact Or.inl og
 refine Ai ?_
 refine aa ah ?_
 refine aa ?_ ?_
 refine Au ?_ ?_ ?_ ?_ ?_ ?_
 rfl
 rfl
 exact hu
 exact Br (aa ah (aa ah ae))
 refine bo ?_ ?_
 refine Dw ?_ ?_
 refine Au ?_ ?_ ?_ ?_ ?_ ?_
 rfl
 rfl
 exact hu
 exact sv Fx
 exact sv fy
 intro _ _; rfl
 exact Af
 exact Af
 intro _ _; rfl
 exact ae
 refine Ac ?_ ?_
 refine Aw ?_ ?_ ?_
 refine Cc ?_ ?_ ?_ ?_
 rfl
 exact hu
 exact sv gw
 exact Af
 refine Ac ?_ ?_
 refine Ap ?_
 refine Ai ?_
 refine aa ah ?_
 refine aa ?_ ?_
 refine Ai ?_
 refine aa (sv Fy) ?_
 refine aa ?_ ?_
 refine Ao ih.i_46 hr (by rfl) T.m_46 T.f_46.kp T.b_46 .nil An Am (ai rfl) ?_
 refine aa ?_ ?_
 refine Au ?_ ?_ ?_ ?_ ?_ ?_
 rfl
 rfl
 exact hu
 exact sv Fx
 refine bq (sv fy) ?_
 exact Af
 intro _ _; rfl
 exact ae
 exact ae
 exact ae
 exact Ae
 exact Ae
 refine Ac ?_ ?_
 refine Aw ?_ ?_ ?_
 refine Cc ?_ ?_ ?_ ?_
 rfl
 exact hu
 exact sv gw
 exact Af
 refine Ac ?_ ?_
 refine Ap ?_
 refine Ai ?_
 refine aa ah ?_
 refine aa ?_ ?_
 refine Au ?_ ?_ ?_ ?_ ?_ ?_
 rfl
 rfl
 exact hu
 refine Br ?_
 refine aa (Ai (aa Af (aa Af ae))) ?_
 refine aa ?_ ?_
 refine Ai ?_
 refine aa (qi Af) ?_
 exact aa Af ae
 refine aa (Ai (aa Af (aa Af ae))) ?_
 exact ae
 refine bo ?_ ?_
 refine Au ?_ ?_ ?_ ?_ ?_ ?_
 rfl
 rfl
 exact hu
 exact sv Fx
 refine bq (sv fy) ?_
 exact Af
 intro _ _; rfl
 exact Af
 intro _ _; rfl
 refine aa (sv Fy) ?_
 exact ae
 exact Ae
 exact Ae
 refine Ac ?_ ?_
 refine Aw ?_ ?_ ?_
 refine Cc ?_ ?_ ?_ ?_
 rfl
 exact hu
 exact sv gw
 exact Af
 refine Ac ?_ ?_
 refine Ap ?_
 refine Ai ?_
 refine aa ah ?_
 refine aa ah ?_
 refine aa ?_ ?_
 refine Ai ?_
 refine aa (sv Fy) ?_
 exact ae
 exact ae
 exact Ae
 exact Ae
 refine Ac ?_ ?_
 refine Aw ?_ ?_ ?_
 refine Cc ?_ ?_ ?_ ?_
 rfl
 exact hu
 exact sv gw
 exact Af
 refine Ac ?_ ?_
 refine Ap ?_
 refine Ai ?_
 refine aa ah ?_
 refine aa (sv og) ?_
 refine aa (sv Fy) ?_
 exact ae
 exact Ae
 exact Ae
 refine Ac ?_ ?_
 refine Aw ?_ ?_ ?_
 refine Cc ?_ ?_ ?_ ?_
 rfl
 exact hu
 exact sv gw
 exact Af
 refine Ac ?_ ?_
 refine Ap ?_
 refine Ai ?_
 refine aa ah ?_
 refine aa ?_ ?_
 refine Ai ?_
 refine aa ah ?_
 refine aa (sv og) ?_
 refine aa ?_ ?_
 refine Ao ih.i_46 hr (by rfl) T.m_46 T.f_46.kp T.b_46 .nil An Am (ai rfl) ?_
 refine aa ?_ ?_
 refine Au ?_ ?_ ?_ ?_ ?_ ?_
 rfl
 rfl
 exact hu
 exact sv Fx
 refine bq (sv fy) ?_
 exact Af
 intro _ _; rfl
 exact ae
 refine aa (sv Fy) ?_
 exact ae
 refine aa ?_ ?_
 refine Ao ih.i_46 hr (by rfl) T.m_46 T.f_46.kp T.b_46 .nil An Am (ai rfl) ?_
 refine aa ?_ ?_
 refine Dw ?_ ?_
 refine Au ?_ ?_ ?_ ?_ ?_ ?_
 rfl
 rfl
 exact hu
 exact sv Fx
 refine bq (sv fy) ?_
 exact Af
 intro _ _; rfl
 exact Af
 exact ae
 exact ae
 exact Ae
 exact Ae
 refine Ac ?_ ?_
 refine Aw ?_ ?_ ?_
 refine Cc ?_ ?_ ?_ ?_
 rfl
 exact hu
 exact sv gw
 exact Af
 refine Ac ?_ ?_
 refine Ap ?_
 refine Ai ?_
 refine aa ah ?_
 refine aa ah ?_
 refine aa ?_ ?_
 refine Ai ?_
 refine aa ?_ ?_
 refine Ao ih.i_47 hr (by rfl) T.m_47 T.f_47.kp T.b_47 .nil An Am (ai rfl) ?_
 refine aa ?_ ?_
 refine Au ?_ ?_ ?_ ?_ ?_ ?_
 rfl
 rfl
 exact hu
 exact sv Fx
 refine bq (sv fy) ?_
 exact Af
 intro _ _; rfl
 exact ae
 refine aa (sv Fy) ?_
 exact ae
 exact ae
 exact Ae
 exact Ae
 refine Ac ?_ ?_
 refine Aw ?_ ?_ ?_
 refine Cc ?_ ?_ ?_ ?_
 rfl
 exact hu
 exact sv gw
 exact Af
 refine Ac ?_ ?_
 refine Ap ?_
 refine Ai ?_
 refine aa ah ?_
 refine aa ah ?_
 refine aa ?_ ?_
 refine Ai ?_
 refine aa (sv Fy) ?_
 refine aa ?_ ?_
 refine Ao ih.i_46 hr (by rfl) T.m_46 T.f_46.kp T.b_46 .nil An Am (ai rfl) ?_
 refine aa ?_ ?_
 refine Au ?_ ?_ ?_ ?_ ?_ ?_
 rfl
 rfl
 exact hu
 exact sv Fx
 refine bq (sv fy) ?_
 exact Af
 intro _ _; rfl
 exact ae
 exact ae
 exact ae
 exact Ae
 exact Ae
 refine Ac (Ap (sv Fy)) ?_
 exact Ae
theorem aik : Fj ih 49 ["_law_xs", "_law_k"] 2 := by
 refine Az (body' := Le) T.f_49 Us rfl fun _ _ _ _ _ _ hr => ?_
 have hu := hr.units
 subst hw
 refine Ac ?_ ?_
 refine Be (i := 2) ?_ ?_ ?_ ?_
 exact Us.nd
 rfl
 exact Or.inl Og
 refine bo ?_ ?_
 refine Au ?_ ?_ ?_ ?_ ?_ ?_
 rfl
 rfl
 exact hu
 exact sv ju
 exact sv Ju
 intro _ _; rfl
 exact Af
 refine Ac ?_ ?_
 refine Aw ?_ ?_ ?_
 refine Kj (sv Og) ?_
 exact Af
 refine Ac ?_ ?_
 refine Ap ?_
 refine Ai ?_
 refine aa ah ?_
 refine aa ?_ ?_
 refine Ao ih.i_47 hr (by rfl) T.m_47 T.f_47.kp T.b_47 .nil An Am (ai rfl) ?_
 refine aa ?_ ?_
 refine Au ?_ ?_ ?_ ?_ ?_ ?_
 rfl
 rfl
 exact hu
 exact sv ju
 refine bq (sv Ju) ?_
 exact Af
 intro _ _; rfl
 exact ae
 refine aa ?_ ?_
 refine Ao ih.i_47 hr (by rfl) T.m_47 T.f_47.kp T.b_47 .nil An Am (ai rfl) ?_
 refine aa ?_ ?_
 refine Au ?_ ?_ ?_ ?_ ?_ ?_
 rfl
 rfl
 exact hu
 exact sv ju
 refine bq (sv Ju) ?_
 exact Af
 intro _ _; rfl
 exact ae
 exact ae
 exact Ae
 exact Ae
 refine Ac ?_ ?_
 refine Ap ?_
 refine Ai ?_
 refine aa ?_ ?_
 refine Au ?_ ?_ ?_ ?_ ?_ ?_
 rfl
 rfl
 exact hu
 exact Br (aa ah (aa ah (aa ah (aa ah (aa ah ae)))))
 exact sv Og
 intro _ _; rfl
 refine aa ?_ ?_
 refine Ao ih.i_48 hr (by rfl) T.m_48 T.f_48.kp T.b_48 .nil An Am (ai rfl) ?_
 refine aa (sv ju) ?_
 refine aa ?_ ?_
 refine bq (sv Ju) ?_
 exact Af
 exact ae
 refine aa ?_ ?_
 refine Ao ih.i_48 hr (by rfl) T.m_48 T.f_48.kp T.b_48 .nil An Am (ai rfl) ?_
 refine aa (sv ju) ?_
 refine aa ?_ ?_
 refine bq (sv Ju) ?_
 exact Af
 exact ae
 exact ae
 exact Ae
theorem ail : Fj ih 50 ["_law_cell"] 1 := by
 refine Az (body' := Lf) T.f_50 lp rfl fun _ _ _ _ _ _ hr => ?_
 have hu := hr.units
 subst hw
 refine Ac ?_ ?_
 refine Be (i := 1) ?_ ?_ ?_ ?_
 exact lp.nd
 rfl
 exact Or.inl ic
 refine Ao ih.i_44 hr (by rfl) T.m_44 T.f_44.kp T.b_44 .nil An Am (ai rfl) ?_
 refine aa (sv ago) ?_
 exact aa Af ae
 refine Ac ?_ ?_
 refine Be (i := 2) ?_ ?_ ?_ ?_
 exact lp.nd
 rfl
 exact Or.inl Jd
 refine Ao ih.i_49 hr (by rfl) T.m_49 T.f_49.kp T.b_49 .nil An Am (ai rfl) ?_
 refine aa (sv ic) ?_
 exact aa Af ae
 refine Ac ?_ ?_
 refine Be (i := 3) ?_ ?_ ?_ ?_
 exact lp.nd
 rfl
 exact Or.inl jv
 refine bo ?_ ?_
 refine Au ?_ ?_ ?_ ?_ ?_ ?_
 rfl
 rfl
 exact hu
 exact sv ic
 exact Af
 intro _ _; rfl
 exact Af
 refine Ac ?_ ?_
 refine Aw ?_ ?_ ?_
 refine Cc ?_ ?_ ?_ ?_
 rfl
 exact hu
 exact sv jv
 exact Af
 refine Ac ?_ ?_
 refine Ap ?_
 refine Ai ?_
 refine aa ah ?_
 refine aa (sv Jd) ?_
 exact ae
 exact Ae
 exact Ae
 refine Ac ?_ ?_
 refine Aw ?_ ?_ ?_
 refine Cc ?_ ?_ ?_ ?_
 rfl
 exact hu
 exact sv jv
 exact Af
 refine Ac ?_ ?_
 refine Ap ?_
 refine Ai ?_
 refine aa ah ?_
 refine aa ?_ ?_
 refine Ai ?_
 refine aa (sv Jd) ?_
 refine aa ?_ ?_
 refine Ao ih.i_49 hr (by rfl) T.m_49 T.f_49.kp T.b_49 .nil An Am (ai rfl) ?_
 refine aa (sv ic) ?_
 exact aa Af ae
 exact ae
 exact ae
 exact Ae
 exact Ae
 refine Ac ?_ ?_
 refine Aw ?_ ?_ ?_
 refine Cc ?_ ?_ ?_ ?_
 rfl
 exact hu
 exact sv jv
 exact Af
 refine Ac ?_ ?_
 refine Ap ?_
 refine Ai ?_
 refine aa ah ?_
 refine aa ?_ ?_
 refine Ai ?_
 refine aa ?_ ?_
 refine Ai ?_
 refine aa ah ?_
 refine aa (sv Jd) ?_
 exact ae
 refine aa ?_ ?_
 refine Ao ih.i_49 hr (by rfl) T.m_49 T.f_49.kp T.b_49 .nil An Am (ai rfl) ?_
 refine aa (sv ic) ?_
 exact aa Af ae
 exact ae
 exact ae
 exact Ae
 exact Ae
 refine Ac ?_ ?_
 refine Aw ?_ ?_ ?_
 refine PW.pt ?_
 refine Jm ?_ ?_
 refine Cc ?_ ?_ ?_ ?_
 rfl
 exact hu
 exact sv jv
 exact Af
 refine km ?_
 refine Cc ?_ ?_ ?_ ?_
 rfl
 exact hu
 refine bo ?_ ?_
 refine Au ?_ ?_ ?_ ?_ ?_ ?_
 rfl
 rfl
 exact hu
 exact sv ic
 exact Af
 intro _ _; rfl
 exact Af
 exact Af
 refine Ac ?_ ?_
 refine Ap ?_
 refine Ai ?_
 refine aa ah ?_
 refine aa ?_ ?_
 refine Ai ?_
 refine aa (sv Jd) ?_
 refine aa ?_ ?_
 refine Ai ?_
 refine aa ah ?_
 refine aa ?_ ?_
 refine Ao ih.i_49 hr (by rfl) T.m_49 T.f_49.kp T.b_49 .nil An Am (ai rfl) ?_
 refine aa (sv ic) ?_
 exact aa Af ae
 exact ae
 exact ae
 exact ae
 exact Ae
 exact Ae
 refine Ac (Ap (sv Jd)) ?_
 exact Ae
theorem aim : Fj ih 51 ["_law_number"] 1 := by
 refine Az (body' := lg) T.f_51 Lp rfl fun _ _ _ _ _ _ hr => ?_
 have hu := hr.units
 subst hw
 refine Ac ?_ ?_
 refine Be (i := 1) ?_ ?_ ?_ ?_
 exact Lp.nd
 rfl
 exact Or.inl oh
 refine Ai ?_
 refine aa ah ?_
 refine aa (Ai (aa ah (aa ah ae))) ?_
 refine aa (Ai (aa ah (aa ah ae))) ?_
 exact ae
 refine Ac ?_ ?_
 refine Be (i := 2) ?_ ?_ ?_ ?_
 exact Lp.nd
 rfl
 exact Or.inl lq
 refine Br ?_
 refine aa (sv oh) ?_
 refine aa ?_ ?_
 refine Ai ?_
 refine aa ah ?_
 refine aa (sv oh) ?_
 exact ae
 refine aa ?_ ?_
 refine Ai ?_
 refine aa ah ?_
 refine aa (Ai (aa ah (aa ah ae))) ?_
 exact ae
 refine aa ?_ ?_
 refine Ai ?_
 refine aa ah ?_
 refine aa (Ai (aa ah (aa ah ae))) ?_
 refine aa (Ai (aa ah (aa ah ae))) ?_
 exact ae
 exact aa Af (aa Ds ae)
 refine Ac ?_ ?_
 refine Be (i := 2) ?_ ?_ ?_ ?_
 exact Lp.nd
 rfl
 exact Or.inl lq
 refine bq (sv lq) ?_
 refine Br ?_
 refine aa ?_ ?_
 refine Ai ?_
 refine aa ah ?_
 refine aa ?_ ?_
 refine Br ?_
 refine aa ?_ ?_
 refine Ai ?_
 refine aa ah ?_
 refine aa (Ai (aa ah (aa ah ae))) ?_
 refine aa (Ai (aa ah (aa ah ae))) ?_
 exact ae
 exact ae
 exact ae
 refine aa (Ai ae) ?_
 refine aa ah ?_
 refine aa ?_ ?_
 refine Ai ?_
 refine aa ah ?_
 refine aa (Ai ae) ?_
 exact ae
 refine aa ?_ ?_
 refine Ai ?_
 refine aa ah ?_
 refine aa (Ai (aa Ds ae)) ?_
 exact ae
 exact ae
 refine Ac ?_ ?_
 refine Ap ?_
 refine Au ?_ ?_ ?_ ?_ ?_ ?_
 rfl
 rfl
 exact hu
 exact sv lq
 refine bo (sv agp) ?_
 exact Af
 intro _ _; rfl
 exact Ae
theorem ain : Fj ih 52 ["_law_house", "_law_statement_here"] 2 := by
 refine Az (body' := jb) T.f_52 Oh rfl fun _ _ _ _ _ _ hr => ?_
 have hu := hr.units
 subst hw
 refine Ac ?_ ?_
 refine Qx (i := 3) (C := 3) ?_ ?_ ?_ ?_ ?_ ?_ ?_ ?_ T.J15 T.J60 ?_ ?_
 intro _; rfl
 rfl
 rfl
 rfl
 exact Oh.nd
 rfl
 exact oi
 rfl
 intro pn E0 xe0 hp0 hx0
 refine Ac ?_ ?_
 refine Be (i := 2) ?_ ?_ ?_ ?_
 exact Oh.nd
 rfl
 exact Or.inl Ut
 refine iu (k := 2 * n) (np := 2) T.J4 T.J39 ?_ ?_ T.b_19 ?_ ?_ ?_ ?_
 exact ih.i_19
 exact hr
 exact hx0
 exact ai rfl
 exact sv agq
 refine aa (sv agr) ?_
 exact ae
 exact Ae
 intro a
 refine Ac ?_ ?_
 refine Ap ?_
 refine Br ?_
 refine aa ah ?_
 refine aa ?_ ?_
 refine Fo ?_ ?_
 refine Km ?_ T.J43 ?_ T.J3 ?_ T.J42 ?_
 rfl
 rfl
 rfl
 exact sv oi
 refine gj ?_
 refine Mp ?_
 refine Km ?_ T.J59 ?_ T.J3 ?_ T.J27 ?_
 rfl
 rfl
 rfl
 exact sv oi
 exact ae
 exact Ae
 refine Ac (Ap (sv Ut)) ?_
 exact Ae
theorem aio : Fj ih 53 ["_law_house", "_law_many"] 2 := by
 refine Az (body' := Jb) T.f_53 Oi rfl fun _ _ _ _ _ _ hr => ?_
 have hu := hr.units
 subst hw
 refine Ac ?_ ?_
 refine Qx (i := 3) (C := 4) ?_ ?_ ?_ ?_ ?_ ?_ ?_ ?_ T.J27 T.J61 ?_ ?_
 intro _; rfl
 rfl
 rfl
 rfl
 exact Oi.nd
 rfl
 exact Oj
 rfl
 intro pn E0 xe0 hp0 hx0
 refine Ac ?_ ?_
 refine Be (i := 2) ?_ ?_ ?_ ?_
 exact Oi.nd
 rfl
 exact Or.inl uu
 refine iu (k := 2 * n) (np := 2) T.J4 T.J38 ?_ ?_ T.b_20 ?_ ?_ ?_ ?_
 exact ih.i_20
 exact hr
 exact hx0
 exact ai rfl
 exact sv ags
 refine aa (sv agt) ?_
 exact ae
 exact Ae
 intro a
 refine Ac ?_ ?_
 refine Ap ?_
 refine Br ?_
 refine aa ah ?_
 refine aa ?_ ?_
 refine Fo ?_ ?_
 refine Km ?_ T.J43 ?_ T.J3 ?_ T.J42 ?_
 rfl
 rfl
 rfl
 exact sv Oj
 refine gj ?_
 refine Mp ?_
 refine Km ?_ T.J58 ?_ T.J3 ?_ T.J15 ?_
 rfl
 rfl
 rfl
 exact sv Oj
 exact ae
 exact Ae
 refine Ac (Ap (sv uu)) ?_
 exact Ae
theorem aip : Fj ih 54 ["_law_script"] 1 := by
 refine mr (m := 2 * n + 1) (body' := du) T.f_54 dk rfl fun cdv A outer s H E hrm => ?_
 have hr := hrm.mono (show 2 * n ≤ 2 * n + 1 by omega)
 have hu := hr.units
 subst hw
 refine Ac ?_ ?_
 refine Be (i := 1) ?_ ?_ ?_ ?_
 exact dk.nd
 rfl
 exact Or.inl je
 refine Mv (k := 2 * n) (np := 2) T.J40 ?_ ?_ ?_ T.J41 T.b_18 ?_ ?_ ?_
 exact ih.i_18
 exact hrm
 rfl
 exact Am
 exact ai rfl
 refine aa ?_ ?_
 exact Sr ih.i_45 hr (by rfl) T.m_45 T.f_45.kp T.b_45 .nil An Am (ai rfl)
 exact ae
 refine Ac ?_ ?_
 refine Be (i := 2) ?_ ?_ ?_ ?_
 exact dk.nd
 rfl
 exact Or.inl Lq
 refine Mv (k := 2 * n) (np := 2) T.J40 ?_ ?_ ?_ T.J41 T.b_18 ?_ ?_ ?_
 exact ih.i_18
 exact hrm
 rfl
 exact Am
 exact ai rfl
 refine aa ?_ ?_
 exact Sr ih.i_45 hr (by rfl) T.m_45 T.f_45.kp T.b_45 .nil An Am (ai rfl)
 exact ae
 refine Ac ?_ ?_
 refine Be (i := 3) ?_ ?_ ?_ ?_
 exact dk.nd
 rfl
 exact Or.inl Fd
 exact Br ae
 refine Ac ?_ ?_
 refine Be (i := 4) ?_ ?_ ?_ ?_
 exact dk.nd
 rfl
 exact Or.inl Jv
 exact Br ae
 refine Ac ?_ ?_
 refine Qw (is := [5]) ?_ ?_ ?_ ?_ ?_ ?_
 rfl
 exact PassesOwn.leaving
 rfl
 refine Kn ?_ ?_ ?_
 rfl
 exact sv agu
 exact Af
 refine df dk.nd ?_ ?_
 rfl
 exact Or.inl lr
 refine Ac ?_ ?_
 refine Be (i := 6) ?_ ?_ ?_ ?_
 exact dk.nd
 rfl
 exact Or.inl Fz
 refine Ao ih.i_44 hr (by rfl) T.m_44 T.f_44.kp T.b_44 .nil An Am (ai rfl) ?_
 refine aa ?_ ?_
 refine Dw (sv lr) ?_
 exact Af
 exact aa Af ae
 refine Ac ?_ ?_
 refine Be (i := 7) ?_ ?_ ?_ ?_
 exact dk.nd
 rfl
 exact Or.inl Ol
 refine bo (sv lr) ?_
 exact Af
 refine Ac ?_ ?_
 refine Aw ?_ ?_ ?_
 refine jm (sv Ol) ?_
 exact Af
 refine Ac ?_ ?_
 refine Be (i := 8) ?_ ?_ ?_ ?_
 exact dk.nd
 rfl
 exact Or.inl jw
 refine Ao ih.i_50 hr (by rfl) T.m_50 T.f_50.kp T.b_50 .nil An Am (ai rfl) ?_
 refine aa ?_ ?_
 refine Dw (sv lr) ?_
 exact Af
 exact ae
 refine Ac ?_ ?_
 refine Aw ?_ ?_ ?_
 refine Zs ?_ ?_ ?_ ?_ ?_
 rfl
 rfl
 exact hu
 refine Ao ih.i_52 hr (by rfl) T.m_52 T.f_52.kp T.b_52 .nil An Am (ai rfl) ?_
 refine aa (sv je) ?_
 refine aa (sv jw) ?_
 exact ae
 exact Ds
 refine Ac (Ap Dr) ?_
 exact Ae
 exact Ae
 refine Ac ?_ ?_
 refine Bm ?_
 refine Hg ?_ ?_ ?_
 rfl
 exact sv Fd
 exact sv jw
 refine Ac ?_ ?_
 refine Aw ?_ ?_ ?_
 refine Cc ?_ ?_ ?_ ?_
 rfl
 exact hu
 refine bo ?_ ?_
 refine Au ?_ ?_ ?_ ?_ ?_ ?_
 rfl
 rfl
 exact hu
 exact sv Fz
 exact Af
 intro _ _; rfl
 exact Af
 exact Af
 refine Ac ?_ ?_
 refine Bm ?_
 refine iu (k := 2 * n) (np := 2) T.J4 T.J39 ?_ ?_ T.b_19 ?_ ?_ ?_ ?_
 exact ih.i_19
 exact hr
 exact Am
 exact ai rfl
 exact sv Lq
 refine aa (sv jw) ?_
 exact ae
 refine Ac ?_ ?_
 refine Bm ?_
 refine Hg ?_ ?_ ?_
 rfl
 exact sv Jv
 exact sv jw
 exact Ae
 exact Ae
 exact Ae
 refine Ac ?_ ?_
 refine Aw ?_ ?_ ?_
 refine Cc ?_ ?_ ?_ ?_
 rfl
 exact hu
 exact sv Ol
 exact Af
 refine Ac ?_ ?_
 refine Aw ?_ ?_ ?_
 refine Dd ?_ ?_ ?_ ?_
 rfl
 exact hu
 refine Ao ih.i_52 hr (by rfl) T.m_52 T.f_52.kp T.b_52 .nil An Am (ai rfl) ?_
 refine aa (sv je) ?_
 refine aa ?_ ?_
 refine Ao ih.i_51 hr (by rfl) T.m_51 T.f_51.kp T.b_51 .nil An Am (ai rfl) ?_
 refine aa ?_ ?_
 refine Au ?_ ?_ ?_ ?_ ?_ ?_
 rfl
 rfl
 exact hu
 exact sv Fz
 exact Af
 intro _ _; rfl
 exact ae
 exact ae
 exact Br (aa ah (aa Dr ae))
 refine Ac (Ap Dr) ?_
 exact Ae
 exact Ae
 exact Ae
 refine Ac ?_ ?_
 refine Be (i := 9) ?_ ?_ ?_ ?_
 exact dk.nd
 rfl
 exact Or.inl Jw
 refine Au ?_ ?_ ?_ ?_ ?_ ?_
 rfl
 rfl
 exact hu
 refine Br ?_
 refine aa ?_ ?_
 refine bo ?_ ?_
 refine Au ?_ ?_ ?_ ?_ ?_ ?_
 rfl
 rfl
 exact hu
 exact sv Fz
 exact Af
 intro _ _; rfl
 exact Af
 refine aa ?_ ?_
 refine bq ?_ ?_
 refine Cp ?_ ?_ T.J8 ?_
 rfl
 rfl
 refine aa (sv Fd) ?_
 exact ae
 refine bo ?_ ?_
 refine Au ?_ ?_ ?_ ?_ ?_ ?_
 rfl
 rfl
 exact hu
 exact sv Fz
 exact Af
 intro _ _; rfl
 exact Af
 refine aa ?_ ?_
 refine bo ?_ ?_
 refine Au ?_ ?_ ?_ ?_ ?_ ?_
 rfl
 rfl
 exact hu
 exact sv Fz
 exact Af
 intro _ _; rfl
 refine bq ?_ ?_
 refine Cp ?_ ?_ T.J8 ?_
 rfl
 rfl
 refine aa (sv Fd) ?_
 exact ae
 exact Af
 refine aa ?_ ?_
 refine Gi Af ?_
 refine bo ?_ ?_
 refine Au ?_ ?_ ?_ ?_ ?_ ?_
 rfl
 rfl
 exact hu
 exact sv Fz
 exact Af
 intro _ _; rfl
 exact Af
 exact ae
 refine bo ?_ ?_
 refine Au ?_ ?_ ?_ ?_ ?_ ?_
 rfl
 rfl
 exact hu
 exact sv Fz
 exact Af
 intro _ _; rfl
 exact Af
 intro _ _; rfl
 refine Ac ?_ ?_
 refine Be (i := 10) ?_ ?_ ?_ ?_
 exact dk.nd
 rfl
 exact Or.inl om
 exact Ds
 refine Ac ?_ ?_
 refine Aw ?_ ?_ ?_
 refine PW.pt ?_
 refine Cg ?_ ?_
 refine Kj (sv Jw) ?_
 refine Cp ?_ ?_ T.J8 ?_
 rfl
 rfl
 refine aa (sv Fd) ?_
 exact ae
 refine dn ?_
 refine jm (sv Jw) ?_
 exact Af
 refine Ac ?_ ?_
 refine Be (i := 10) ?_ ?_ ?_ ?_
 exact dk.nd
 rfl
 exact Or.inl om
 exact Br (aa ah (aa Dr ae))
 exact Ae
 refine Ac ?_ ?_
 refine Be (i := 3) ?_ ?_ ?_ ?_
 exact dk.nd
 rfl
 exact Or.inl Fd
 refine Kn ?_ ?_ ?_
 rfl
 exact sv Fd
 refine Gi ?_ ?_
 refine Cp ?_ ?_ T.J8 ?_
 rfl
 rfl
 refine aa (sv Fd) ?_
 exact ae
 exact sv Jw
 exact Ae
 refine Ac ?_ ?_
 refine Aw ?_ ?_ ?_
 refine Dd ?_ ?_ ?_ ?_
 rfl
 exact hu
 refine Ao ih.i_53 hr (by rfl) T.m_53 T.f_53.kp T.b_53 .nil An Am (ai rfl) ?_
 refine aa (sv je) ?_
 refine aa (sv Jw) ?_
 exact ae
 exact sv om
 refine Ac (Ap Dr) ?_
 exact Ae
 exact Ae
 exact Ae
 exact Ae
 refine Ac ?_ ?_
 refine Be (i := 11) ?_ ?_ ?_ ?_
 exact dk.nd
 rfl
 exact Or.inl Lr
 refine Mu (k := 2 * n) (np := 1) T.J4 T.J26 ?_ ?_ T.b_21 ?_ ?_ ?_
 exact ih.i_21
 exact hr
 exact Am
 exact ai rfl
 exact sv je
 refine Ac ?_ ?_
 refine Aw ?_ ?_ ?_
 refine PW.pt ?_
 refine Cg ?_ ?_
 refine Bo ?_
 refine bp ?_ ?_ ?_ ?_
 rfl
 refine Ci ?_ ?_ ?_ ?_ T.J3 ?_ T.J10 ?_ ?_
 rfl
 decide
 exact fun n => Ck (n := n) (x := "list") (by decide)
 rfl
 rfl
 rfl
 exact sv Lr
 exact Dn
 intro _; rfl
 refine dn ?_
 refine Dd ?_ ?_ ?_ ?_
 rfl
 exact hu
 exact sv Lr
 exact sv Fd
 refine Ac (Ap Dr) ?_
 exact Ae
 exact Ae
 refine Ac ?_ ?_
 refine Bm ?_
 refine Hg ?_ ?_ ?_
 rfl
 exact sv Lr
 exact Ai ae
 refine Ac ?_ ?_
 refine Aw ?_ ?_ ?_
 refine PW.pt ?_
 refine Jm ?_ ?_
 refine Cc ?_ ?_ ?_ ?_
 rfl
 exact hu
 refine bo ?_ ?_
 refine Au ?_ ?_ ?_ ?_ ?_ ?_
 rfl
 rfl
 exact hu
 exact sv Fz
 exact Af
 intro _ _; rfl
 exact Af
 exact Af
 refine km ?_
 refine Dd ?_ ?_ ?_ ?_
 rfl
 exact hu
 exact sv Jv
 exact Br ae
 refine Ac ?_ ?_
 refine Bm ?_
 refine iu (k := 2 * n) (np := 2) T.J4 T.J38 ?_ ?_ T.b_20 ?_ ?_ ?_ ?_
 exact ih.i_20
 exact hr
 exact Am
 exact ai rfl
 exact sv Lq
 exact aa Af ae
 refine Ac ?_ ?_
 refine Bm ?_
 refine aac ?_ ?_
 rfl
 exact sv Jv
 exact Ae
 exact Ae
 refine Ac ?_ ?_
 refine Aw ?_ ?_ ?_
 refine Dd ?_ ?_ ?_ ?_
 rfl
 exact hu
 refine Mu (k := 2 * n) (np := 1) T.J4 T.J26 ?_ ?_ T.b_21 ?_ ?_ ?_
 exact ih.i_21
 exact hr
 exact Am
 exact ai rfl
 exact sv Lq
 exact sv Jv
 refine Ac (Ap Dr) ?_
 exact Ae
 exact Ae
 exact Ae
 refine Ac ?_ ?_
 refine Ap ?_
 refine Mm ?_ ?_ ?_ ?_
 rfl
 exact hu
 refine Mu (k := 2 * n) (np := 1) T.J4 T.J26 ?_ ?_ T.b_21 ?_ ?_ ?_
 exact ih.i_21
 exact hr
 exact Am
 exact ai rfl
 exact sv je
 exact sv Fd
 exact Ae
end
theorem Uu (hw : cls.w = w) (T : Txt K mg fd cls) : ∀ n, IH (Fk Pr w K mg base fd cls FF n)
 | 0 => ⟨Ay, Ay, Ay, Ay, Ay, Ay, Ay, Ay, Ay, Ay, Ay, Ay, Ay, Ay, Ay, Ay, Ay, Ay, Ay, Ay, Ay, Ay, Ay, Ay, Ay, Ay, Ay, Ay, Ay, Ay, Ay, Ay, Ay, Ay, Ay, Ay, Ay, Ay, Ay, Ay, Ay, Ay, Ay, Ay, Ay, Ay⟩
 | n + 1 => by
  have ih := Uu hw T n
  exact ⟨agv hw T ih, agw hw T ih, agx hw T ih, agy hw T ih, agz hw T ih, aha hw T ih, ahb hw T ih, ahc hw T ih, ahd hw T ih, ahe hw T ih, ahf hw T ih, ahg hw T ih, ahh hw T ih, ahi hw T ih, ahj hw T ih, ahk hw T ih, ahl hw T ih, ahm hw T ih, ahn hw T ih, aho hw T ih, ahp hw T ih, ahq hw T ih, ahr hw T ih, ahs hw T ih, aht hw T ih, ahu hw T ih, ahv hw T ih, ahw hw T ih, ahx hw T ih, ahy hw T ih, ahz hw T ih, aia hw T ih, aib hw T ih, aic hw T ih, aid hw T ih, aie hw T ih, aif hw T ih, aih hw T ih, aii hw T ih, aij hw T ih, aik hw T ih, ail hw T ih, aim hw T ih, ain hw T ih, aio hw T ih, aip hw T ih⟩
end
abbrev uv (l : List Addr) : Nat → Addr := fun i => l.getD i 0
instance : Inhabited FuncData := ⟨W.fnOf "" "" (jk (.Pass ⟨0, 0, 0, 0⟩)) (Gz (.Pass ⟨0, 0, 0, 0⟩)) (Aq (.Pass ⟨0, 0, 0, 0⟩)) .none .none .none .none none .none .none⟩
theorem aiq (kV doc pm : Value) (an : Option Addr) (cdv ct : Value) (us : List Value) (hl : us.length = 1) : bindArgs (fO "law" "law" Cd .none kV doc pm an cdv ct) ⟨us, []⟩ = pure ((["_law_script"] : List Str).zip us) := match us, hl with | [_], _ => rfl
theorem air {K : W.Frag} {kv1 dc1 pm1 cd1 ct1 : Value} {an1 : Option Addr} : Binds K (fO "is_whole" "is_whole" Hm .none kv1 dc1 pm1 an1 cd1 ct1) ["thing"] [] := Binds.all fun us hl => match us, hl with | [_], _ => rfl
theorem ais {K : W.Frag} {kv2 dc2 pm2 cd2 ct2 : Value} {an2 : Option Addr} : Binds K (fO "is_fraction" "is_fraction" ft .none kv2 dc2 pm2 an2 cd2 ct2) ["thing"] [] := Binds.all fun us hl => match us, hl with | [_], _ => rfl
theorem ait {K : W.Frag} {kv3 dc3 pm3 cd3 ct3 : Value} {an3 : Option Addr} : Binds K (fO "common_divisor" "common_divisor" Gm .none kv3 dc3 pm3 an3 cd3 ct3) ["one", "other"] [] := Binds.all fun us hl => match us, hl with | [_, _], _ => rfl
theorem aiu {K : W.Frag} {kv4 dc4 pm4 cd4 ct4 : Value} {an4 : Option Addr} : Binds K (fO "word_of" "word_of" Hn .none kv4 dc4 pm4 an4 cd4 ct4) ["thing"] [] := Binds.all fun us hl => match us, hl with | [_], _ => rfl
theorem aiv {K : W.Frag} {kv5 dc5 pm5 cd5 ct5 : Value} {an5 : Option Addr} : Binds K (fO "kind_within" "kind_within" Dz .none kv5 dc5 pm5 an5 cd5 ct5) ["names", "term", "room"] [] := Binds.all fun us hl => match us, hl with | [_, _, _], _ => rfl
theorem aiw {K : W.Frag} {kv6 dc6 pm6 cd6 ct6 : Value} {an6 : Option Addr} : Binds K (fO "check_kinds" "check_kinds" dt .none kv6 dc6 pm6 an6 cd6 ct6) ["names", "terms", "kinds", "room"] [] := Binds.all fun us hl => match us, hl with | [_, _, _, _], _ => rfl
theorem aix {K : W.Frag} {kv7 dc7 pm7 cd7 ct7 : Value} {an7 : Option Addr} : Binds K (fO "kind_of_number" "kind_of_number" Hq .none kv7 dc7 pm7 an7 cd7 ct7) ["names", "term", "room"] [] := Binds.all fun us hl => match us, hl with | [_, _, _], _ => rfl
theorem aiy {K : W.Frag} {kv8 dc8 pm8 cd8 ct8 : Value} {an8 : Option Addr} : Binds K (fO "kind_of_unknown" "kind_of_unknown" Ft .none kv8 dc8 pm8 an8 cd8 ct8) ["names", "term", "room"] [] := Binds.all fun us hl => match us, hl with | [_, _, _], _ => rfl
theorem aiz {K : W.Frag} {kv9 dc9 pm9 cd9 ct9 : Value} {an9 : Option Addr} : Binds K (fO "kind_of_weigh" "kind_of_weigh" fu .none kv9 dc9 pm9 an9 cd9 ct9) ["names", "term", "room"] [] := Binds.all fun us hl => match us, hl with | [_, _, _], _ => rfl
theorem aja {K : W.Frag} {kv10 dc10 pm10 cd10 ct10 : Value} {an10 : Option Addr} : Binds K (fO "kind_of_plus" "kind_of_plus" Fu .none kv10 dc10 pm10 an10 cd10 ct10) ["names", "term", "room"] [] := Binds.all fun us hl => match us, hl with | [_, _, _], _ => rfl
theorem ajb {K : W.Frag} {kv11 dc11 pm11 cd11 ct11 : Value} {an11 : Option Addr} : Binds K (fO "kind_of_call" "kind_of_call" Dt .none kv11 dc11 pm11 an11 cd11 ct11) ["names", "term", "room"] [] := Binds.all fun us hl => match us, hl with | [_, _, _], _ => rfl
theorem ajc {K : W.Frag} {kv12 dc12 pm12 cd12 ct12 : Value} {an12 : Option Addr} : Binds K (fO "kind_of_read" "kind_of_read" Fv .none kv12 dc12 pm12 an12 cd12 ct12) ["names", "term", "room"] [] := Binds.all fun us hl => match us, hl with | [_, _, _], _ => rfl
theorem ajd {K : W.Frag} {kv13 dc13 pm13 cd13 ct13 : Value} {an13 : Option Addr} : Binds K (fO "kind_of_put" "kind_of_put" fw .none kv13 dc13 pm13 an13 cd13 ct13) ["names", "term", "room"] [] := Binds.all fun us hl => match us, hl with | [_, _, _], _ => rfl
theorem aje {K : W.Frag} {kv14 dc14 pm14 cd14 ct14 : Value} {an14 : Option Addr} : Binds K (fO "check_statement" "check_statement" Gn .none kv14 dc14 pm14 an14 cd14 ct14) ["names", "statement"] [] := Binds.all fun us hl => match us, hl with | [_, _], _ => rfl
theorem ajf {K : W.Frag} {kv15 dc15 pm15 cd15 ct15 : Value} {an15 : Option Addr} : Binds K (fO "check_within" "check_within" eu .none kv15 dc15 pm15 an15 cd15 ct15) ["names", "statement", "room"] [] := Binds.all fun us hl => match us, hl with | [_, _, _], _ => rfl
theorem ajg {K : W.Frag} {kv16 dc16 pm16 cd16 ct16 : Value} {an16 : Option Addr} : Binds K (fO "check_all" "check_all" Ew .none kv16 dc16 pm16 an16 cd16 ct16) ["names", "statements", "room"] [] := Binds.all fun us hl => match us, hl with | [_, _, _], _ => rfl
theorem ajh {K : W.Frag} {kv17 dc17 pm17 cd17 ct17 : Value} {an17 : Option Addr} : Binds K (fO "check_atom" "check_atom" Ey .none kv17 dc17 pm17 an17 cd17 ct17) ["names", "atom", "room"] [] := Binds.all fun us hl => match us, hl with | [_, _, _], _ => rfl
theorem aji {K : W.Frag} {kv18 dc18 pm18 cd18 ct18 : Value} {an18 : Option Addr} : Binds K (fO "__init__" "House.__init__" gp .none kv18 dc18 pm18 an18 cd18 ct18) ["self", "names"] [] := Binds.all fun us hl => match us, hl with | [_, _], _ => rfl
theorem ajj {K : W.Frag} {kv19 dc19 pm19 cd19 ct19 : Value} {an19 : Option Addr} : Binds K (fO "tell" "House.tell" Gp .none kv19 dc19 pm19 an19 cd19 ct19) ["self", "statement"] [] := Binds.all fun us hl => match us, hl with | [_, _], _ => rfl
theorem ajk {K : W.Frag} {kv20 dc20 pm20 cd20 ct20 : Value} {an20 : Option Addr} : Binds K (fO "back" "House.back" gq .none kv20 dc20 pm20 an20 cd20 ct20) ["self", "many"] [] := Binds.all fun us hl => match us, hl with | [_, _], _ => rfl
theorem ajl {K : W.Frag} {kv21 dc21 pm21 cd21 ct21 : Value} {an21 : Option Addr} : Binds K (fO "told" "House.told" Hr .none kv21 dc21 pm21 an21 cd21 ct21) ["self"] [] := Binds.all fun us hl => match us, hl with | [_], _ => rfl
theorem ajm {K : W.Frag} {kv23 dc23 pm23 cd23 ct23 : Value} {an23 : Option Addr} : Binds K (fO "is_name" "is_name" Hs .none kv23 dc23 pm23 an23 cd23 ct23) ["thing"] [] := Binds.all fun us hl => match us, hl with | [_], _ => rfl
theorem ajn {K : W.Frag} {kv24 dc24 pm24 cd24 ct24 : Value} {an24 : Option Addr} : Binds K (fO "is_row" "is_row" Ht .none kv24 dc24 pm24 an24 cd24 ct24) ["thing"] [] := Binds.all fun us hl => match us, hl with | [_], _ => rfl
theorem ajo {K : W.Frag} {kv25 dc25 pm25 cd25 ct25 : Value} {an25 : Option Addr} : Binds K (fO "is_kind" "is_kind" Hu .none kv25 dc25 pm25 an25 cd25 ct25) ["thing"] [] := Binds.all fun us hl => match us, hl with | [_], _ => rfl
theorem ajp {K : W.Frag} {kv26 dc26 pm26 cd26 ct26 : Value} {an26 : Option Addr} : Binds K (fO "is_list_of_names" "is_list_of_names" Hv .none kv26 dc26 pm26 an26 cd26 ct26) ["thing"] [] := Binds.all fun us hl => match us, hl with | [_], _ => rfl
theorem ajq {K : W.Frag} {kv27 dc27 pm27 cd27 ct27 : Value} {an27 : Option Addr} : Binds K (fO "is_bounded" "is_bounded" Hw .none kv27 dc27 pm27 an27 cd27 ct27) ["thing"] [] := Binds.all fun us hl => match us, hl with | [_], _ => rfl
theorem ajr {K : W.Frag} {kv28 dc28 pm28 cd28 ct28 : Value} {an28 : Option Addr} : Binds K (fO "is_function" "is_function" Hx .none kv28 dc28 pm28 an28 cd28 ct28) ["thing"] [] := Binds.all fun us hl => match us, hl with | [_], _ => rfl
theorem ajs {K : W.Frag} {kv29 dc29 pm29 cd29 ct29 : Value} {an29 : Option Addr} : Binds K (fO "check_wholes" "check_wholes" Ea .none kv29 dc29 pm29 an29 cd29 ct29) ["wholes"] [] := Binds.all fun us hl => match us, hl with | [_], _ => rfl
theorem ajt {K : W.Frag} {kv30 dc30 pm30 cd30 ct30 : Value} {an30 : Option Addr} : Binds K (fO "check_functions" "check_functions" Hy .none kv30 dc30 pm30 an30 cd30 ct30) ["functions"] [] := Binds.all fun us hl => match us, hl with | [_], _ => rfl
theorem aju {K : W.Frag} {kv31 dc31 pm31 cd31 ct31 : Value} {an31 : Option Addr} : Binds K (fO "check_names" "check_names" Hz .none kv31 dc31 pm31 an31 cd31 ct31) ["names"] [] := Binds.all fun us hl => match us, hl with | [_], _ => rfl
theorem ajv {K : W.Frag} {kv32 dc32 pm32 cd32 ct32 : Value} {an32 : Option Addr} : Binds K (fO "first_parts" "first_parts" ia .none kv32 dc32 pm32 an32 cd32 ct32) ["rows"] [] := Binds.all fun us hl => match us, hl with | [_], _ => rfl
theorem ajw {K : W.Frag} {kv33 dc33 pm33 cd33 ct33 : Value} {an33 : Option Addr} : Binds K (fO "check_unlike" "check_unlike" Ia .none kv33 dc33 pm33 an33 cd33 ct33) ["names"] [] := Binds.all fun us hl => match us, hl with | [_], _ => rfl
theorem ajx {K : W.Frag} {kv34 dc34 pm34 cd34 ct34 : Value} {an34 : Option Addr} : Binds K (fO "__init__" "Names.__init__" Dp .none kv34 dc34 pm34 an34 cd34 ct34) ["self", "numbers", "wholes", "things", "functions", "arrays"] [] := Binds.all fun us hl => match us, hl with | [_, _, _, _, _, _], _ => rfl
theorem ajy {K : W.Frag} {kv40 dc40 pm40 cd40 ct40 : Value} {an40 : Option Addr} : Binds K (fO "kind" "Names.kind" Gq .none kv40 dc40 pm40 an40 cd40 ct40) ["self", "name"] [] := Binds.all fun us hl => match us, hl with | [_, _], _ => rfl
theorem ajz {K : W.Frag} {kv42 dc42 pm42 cd42 ct42 : Value} {an42 : Option Addr} : Binds K (fO "function" "Names.function" gr .none kv42 dc42 pm42 an42 cd42 ct42) ["self", "name"] [] := Binds.all fun us hl => match us, hl with | [_, _], _ => rfl
theorem aka {K : W.Frag} {kv44 dc44 pm44 cd44 ct44 : Value} {an44 : Option Addr} : Binds K (fO "_law_stream" "_law_stream" Eb .none kv44 dc44 pm44 an44 cd44 ct44) ["_law_cell", "_law_many"] [] := Binds.all fun us hl => match us, hl with | [_, _], _ => rfl
theorem akb {K : W.Frag} {kv45 dc45 pm45 cd45 ct45 : Value} {an45 : Option Addr} : Binds K (fO "_law_names" "_law_names" ib .none kv45 dc45 pm45 an45 cd45 ct45) [] [] := Binds.all fun us hl => match us, hl with | [], _ => rfl
theorem akc {K : W.Frag} {kv46 dc46 pm46 cd46 ct46 : Value} {an46 : Option Addr} : Binds K (fO "_law_small" "_law_small" Ib .none kv46 dc46 pm46 an46 cd46 ct46) ["_law_number"] [] := Binds.all fun us hl => match us, hl with | [_], _ => rfl
theorem akd {K : W.Frag} {kv47 dc47 pm47 cd47 ct47 : Value} {an47 : Option Addr} : Binds K (fO "_law_thing" "_law_thing" Gr .none kv47 dc47 pm47 an47 cd47 ct47) ["_law_number"] [] := Binds.all fun us hl => match us, hl with | [_], _ => rfl
theorem ake {K : W.Frag} {kv48 dc48 pm48 cd48 ct48 : Value} {an48 : Option Addr} : Binds K (fO "_law_num" "_law_num" Ec .none kv48 dc48 pm48 an48 cd48 ct48) ["_law_xs", "_law_k"] [] := Binds.all fun us hl => match us, hl with | [_, _], _ => rfl
theorem akf {K : W.Frag} {kv49 dc49 pm49 cd49 ct49 : Value} {an49 : Option Addr} : Binds K (fO "_law_atom" "_law_atom" Fw .none kv49 dc49 pm49 an49 cd49 ct49) ["_law_xs", "_law_k"] [] := Binds.all fun us hl => match us, hl with | [_, _], _ => rfl
theorem akg {K : W.Frag} {kv50 dc50 pm50 cd50 ct50 : Value} {an50 : Option Addr} : Binds K (fO "_law_statement" "_law_statement" Ez .none kv50 dc50 pm50 an50 cd50 ct50) ["_law_cell"] [] := Binds.all fun us hl => match us, hl with | [_], _ => rfl
theorem akh {K : W.Frag} {kv51 dc51 pm51 cd51 ct51 : Value} {an51 : Option Addr} : Binds K (fO "_law_odd" "_law_odd" fx .none kv51 dc51 pm51 an51 cd51 ct51) ["_law_number"] [] := Binds.all fun us hl => match us, hl with | [_], _ => rfl
theorem aki {K : W.Frag} {kv52 dc52 pm52 cd52 ct52 : Value} {an52 : Option Addr} : Binds K (fO "_law_tell" "_law_tell" fb .none kv52 dc52 pm52 an52 cd52 ct52) ["_law_house", "_law_statement_here"] [] := Binds.all fun us hl => match us, hl with | [_, _], _ => rfl
theorem akj {K : W.Frag} {kv53 dc53 pm53 cd53 ct53 : Value} {an53 : Option Addr} : Binds K (fO "_law_back" "_law_back" Fb .none kv53 dc53 pm53 an53 cd53 ct53) ["_law_house", "_law_many"] [] := Binds.all fun us hl => match us, hl with | [_, _], _ => rfl
theorem akk {K : W.Frag} {kv54 dc54 pm54 cd54 ct54 : Value} {an54 : Option Addr} : Binds K (fO "law" "law" Cd .none kv54 dc54 pm54 an54 cd54 ct54) ["_law_script"] [] := Binds.all fun us hl => match us, hl with | [_], _ => rfl
set_option maxHeartbeats 0 in
theorem akl (w : World) {K : W.Frag} {mg : Str → Option Value} {h : Heap} (X : K.In h) (G : h.Ns mainGlobals mg)
 {ci1 : _}
 {ci2 : _}
 {ci3 : _}
 {ci4 : _}
 (ac0 : W.nsIn K mainGlobals "PartError" = some (some (.ref g0)))
 (ac1 : W.nsIn K mainGlobals "BadNames" = some (some (.ref g1)))
 (ac2 : W.nsIn K mainGlobals "BadTerm" = some (some (.ref g2)))
 (ac3 : W.nsIn K mainGlobals "BadStatement" = some (some (.ref g3)))
 (ac4 : W.nsIn K mainGlobals "NotTold" = some (some (.ref g4)))
 (ac5 : W.nsIn K mainGlobals "House" = some (some (.ref g5)))
 (ac6 : W.nsIn K mainGlobals "Names" = some (some (.ref g6)))
 (a1 : W.nsIn K mainGlobals "is_whole" = some (some (.ref f1)))
 (l1 : K.lookup f1 = some ⟨oc1, od1, .func (fO "is_whole" "is_whole" Hm .none kv1 dc1 pm1 an1 cd1 ct1), sl1⟩)
 (c1 : W.codeIn K cd1 "is_whole" = true)
 (k1 : W.keepIn K (.ref f1) = true)
 (a2 : W.nsIn K mainGlobals "is_fraction" = some (some (.ref f2)))
 (l2 : K.lookup f2 = some ⟨oc2, od2, .func (fO "is_fraction" "is_fraction" ft .none kv2 dc2 pm2 an2 cd2 ct2), sl2⟩)
 (c2 : W.codeIn K cd2 "is_fraction" = true)
 (k2 : W.keepIn K (.ref f2) = true)
 (a3 : W.nsIn K mainGlobals "common_divisor" = some (some (.ref f3)))
 (l3 : K.lookup f3 = some ⟨oc3, od3, .func (fO "common_divisor" "common_divisor" Gm .none kv3 dc3 pm3 an3 cd3 ct3), sl3⟩)
 (c3 : W.codeIn K cd3 "common_divisor" = true)
 (k3 : W.keepIn K (.ref f3) = true)
 (a4 : W.nsIn K mainGlobals "word_of" = some (some (.ref f4)))
 (l4 : K.lookup f4 = some ⟨oc4, od4, .func (fO "word_of" "word_of" Hn .none kv4 dc4 pm4 an4 cd4 ct4), sl4⟩)
 (c4 : W.codeIn K cd4 "word_of" = true)
 (k4 : W.keepIn K (.ref f4) = true)
 (a5 : W.nsIn K mainGlobals "kind_within" = some (some (.ref f5)))
 (l5 : K.lookup f5 = some ⟨oc5, od5, .func (fO "kind_within" "kind_within" Dz .none kv5 dc5 pm5 an5 cd5 ct5), sl5⟩)
 (c5 : W.codeIn K cd5 "kind_within" = true)
 (k5 : W.keepIn K (.ref f5) = true)
 (a6 : W.nsIn K mainGlobals "check_kinds" = some (some (.ref f6)))
 (l6 : K.lookup f6 = some ⟨oc6, od6, .func (fO "check_kinds" "check_kinds" dt .none kv6 dc6 pm6 an6 cd6 ct6), sl6⟩)
 (c6 : W.codeIn K cd6 "check_kinds" = true)
 (k6 : W.keepIn K (.ref f6) = true)
 (a7 : W.nsIn K mainGlobals "kind_of_number" = some (some (.ref f7)))
 (l7 : K.lookup f7 = some ⟨oc7, od7, .func (fO "kind_of_number" "kind_of_number" Hq .none kv7 dc7 pm7 an7 cd7 ct7), sl7⟩)
 (c7 : W.codeIn K cd7 "kind_of_number" = true)
 (k7 : W.keepIn K (.ref f7) = true)
 (a8 : W.nsIn K mainGlobals "kind_of_unknown" = some (some (.ref f8)))
 (l8 : K.lookup f8 = some ⟨oc8, od8, .func (fO "kind_of_unknown" "kind_of_unknown" Ft .none kv8 dc8 pm8 an8 cd8 ct8), sl8⟩)
 (c8 : W.codeIn K cd8 "kind_of_unknown" = true)
 (k8 : W.keepIn K (.ref f8) = true)
 (a9 : W.nsIn K mainGlobals "kind_of_weigh" = some (some (.ref f9)))
 (l9 : K.lookup f9 = some ⟨oc9, od9, .func (fO "kind_of_weigh" "kind_of_weigh" fu .none kv9 dc9 pm9 an9 cd9 ct9), sl9⟩)
 (c9 : W.codeIn K cd9 "kind_of_weigh" = true)
 (k9 : W.keepIn K (.ref f9) = true)
 (a10 : W.nsIn K mainGlobals "kind_of_plus" = some (some (.ref f10)))
 (l10 : K.lookup f10 = some ⟨oc10, od10, .func (fO "kind_of_plus" "kind_of_plus" Fu .none kv10 dc10 pm10 an10 cd10 ct10), sl10⟩)
 (c10 : W.codeIn K cd10 "kind_of_plus" = true)
 (k10 : W.keepIn K (.ref f10) = true)
 (a11 : W.nsIn K mainGlobals "kind_of_call" = some (some (.ref f11)))
 (l11 : K.lookup f11 = some ⟨oc11, od11, .func (fO "kind_of_call" "kind_of_call" Dt .none kv11 dc11 pm11 an11 cd11 ct11), sl11⟩)
 (c11 : W.codeIn K cd11 "kind_of_call" = true)
 (k11 : W.keepIn K (.ref f11) = true)
 (a12 : W.nsIn K mainGlobals "kind_of_read" = some (some (.ref f12)))
 (l12 : K.lookup f12 = some ⟨oc12, od12, .func (fO "kind_of_read" "kind_of_read" Fv .none kv12 dc12 pm12 an12 cd12 ct12), sl12⟩)
 (c12 : W.codeIn K cd12 "kind_of_read" = true)
 (k12 : W.keepIn K (.ref f12) = true)
 (a13 : W.nsIn K mainGlobals "kind_of_put" = some (some (.ref f13)))
 (l13 : K.lookup f13 = some ⟨oc13, od13, .func (fO "kind_of_put" "kind_of_put" fw .none kv13 dc13 pm13 an13 cd13 ct13), sl13⟩)
 (c13 : W.codeIn K cd13 "kind_of_put" = true)
 (k13 : W.keepIn K (.ref f13) = true)
 (a14 : W.nsIn K mainGlobals "check_statement" = some (some (.ref f14)))
 (l14 : K.lookup f14 = some ⟨oc14, od14, .func (fO "check_statement" "check_statement" Gn .none kv14 dc14 pm14 an14 cd14 ct14), sl14⟩)
 (c14 : W.codeIn K cd14 "check_statement" = true)
 (k14 : W.keepIn K (.ref f14) = true)
 (a15 : W.nsIn K mainGlobals "check_within" = some (some (.ref f15)))
 (l15 : K.lookup f15 = some ⟨oc15, od15, .func (fO "check_within" "check_within" eu .none kv15 dc15 pm15 an15 cd15 ct15), sl15⟩)
 (c15 : W.codeIn K cd15 "check_within" = true)
 (k15 : W.keepIn K (.ref f15) = true)
 (a16 : W.nsIn K mainGlobals "check_all" = some (some (.ref f16)))
 (l16 : K.lookup f16 = some ⟨oc16, od16, .func (fO "check_all" "check_all" Ew .none kv16 dc16 pm16 an16 cd16 ct16), sl16⟩)
 (c16 : W.codeIn K cd16 "check_all" = true)
 (k16 : W.keepIn K (.ref f16) = true)
 (a17 : W.nsIn K mainGlobals "check_atom" = some (some (.ref f17)))
 (l17 : K.lookup f17 = some ⟨oc17, od17, .func (fO "check_atom" "check_atom" Ey .none kv17 dc17 pm17 an17 cd17 ct17), sl17⟩)
 (c17 : W.codeIn K cd17 "check_atom" = true)
 (k17 : W.keepIn K (.ref f17) = true)
 (a18 : W.findIn K (.ref g5) "__init__" = some (some (.ref f18)))
 (i18 : W.isFn K (.ref f18) = true)
 (l18 : K.lookup f18 = some ⟨oc18, od18, .func (fO "__init__" "House.__init__" gp .none kv18 dc18 pm18 an18 cd18 ct18), sl18⟩)
 (c18 : W.codeIn K cd18 "House.__init__" = true)
 (k18 : W.keepIn K (.ref f18) = true)
 (a19 : W.findIn K (.ref g5) "tell" = some (some (.ref f19)))
 (i19 : W.isFn K (.ref f19) = true)
 (l19 : K.lookup f19 = some ⟨oc19, od19, .func (fO "tell" "House.tell" Gp .none kv19 dc19 pm19 an19 cd19 ct19), sl19⟩)
 (c19 : W.codeIn K cd19 "House.tell" = true)
 (k19 : W.keepIn K (.ref f19) = true)
 (a20 : W.findIn K (.ref g5) "back" = some (some (.ref f20)))
 (i20 : W.isFn K (.ref f20) = true)
 (l20 : K.lookup f20 = some ⟨oc20, od20, .func (fO "back" "House.back" gq .none kv20 dc20 pm20 an20 cd20 ct20), sl20⟩)
 (c20 : W.codeIn K cd20 "House.back" = true)
 (k20 : W.keepIn K (.ref f20) = true)
 (a21 : W.findIn K (.ref g5) "told" = some (some (.ref f21)))
 (i21 : W.isFn K (.ref f21) = true)
 (l21 : K.lookup f21 = some ⟨oc21, od21, .func (fO "told" "House.told" Hr .none kv21 dc21 pm21 an21 cd21 ct21), sl21⟩)
 (c21 : W.codeIn K cd21 "House.told" = true)
 (k21 : W.keepIn K (.ref f21) = true)
 (a23 : W.nsIn K mainGlobals "is_name" = some (some (.ref f23)))
 (l23 : K.lookup f23 = some ⟨oc23, od23, .func (fO "is_name" "is_name" Hs .none kv23 dc23 pm23 an23 cd23 ct23), sl23⟩)
 (c23 : W.codeIn K cd23 "is_name" = true)
 (k23 : W.keepIn K (.ref f23) = true)
 (a24 : W.nsIn K mainGlobals "is_row" = some (some (.ref f24)))
 (l24 : K.lookup f24 = some ⟨oc24, od24, .func (fO "is_row" "is_row" Ht .none kv24 dc24 pm24 an24 cd24 ct24), sl24⟩)
 (c24 : W.codeIn K cd24 "is_row" = true)
 (k24 : W.keepIn K (.ref f24) = true)
 (a25 : W.nsIn K mainGlobals "is_kind" = some (some (.ref f25)))
 (l25 : K.lookup f25 = some ⟨oc25, od25, .func (fO "is_kind" "is_kind" Hu .none kv25 dc25 pm25 an25 cd25 ct25), sl25⟩)
 (c25 : W.codeIn K cd25 "is_kind" = true)
 (k25 : W.keepIn K (.ref f25) = true)
 (a26 : W.nsIn K mainGlobals "is_list_of_names" = some (some (.ref f26)))
 (l26 : K.lookup f26 = some ⟨oc26, od26, .func (fO "is_list_of_names" "is_list_of_names" Hv .none kv26 dc26 pm26 an26 cd26 ct26), sl26⟩)
 (c26 : W.codeIn K cd26 "is_list_of_names" = true)
 (k26 : W.keepIn K (.ref f26) = true)
 (a27 : W.nsIn K mainGlobals "is_bounded" = some (some (.ref f27)))
 (l27 : K.lookup f27 = some ⟨oc27, od27, .func (fO "is_bounded" "is_bounded" Hw .none kv27 dc27 pm27 an27 cd27 ct27), sl27⟩)
 (c27 : W.codeIn K cd27 "is_bounded" = true)
 (k27 : W.keepIn K (.ref f27) = true)
 (a28 : W.nsIn K mainGlobals "is_function" = some (some (.ref f28)))
 (l28 : K.lookup f28 = some ⟨oc28, od28, .func (fO "is_function" "is_function" Hx .none kv28 dc28 pm28 an28 cd28 ct28), sl28⟩)
 (c28 : W.codeIn K cd28 "is_function" = true)
 (k28 : W.keepIn K (.ref f28) = true)
 (a29 : W.nsIn K mainGlobals "check_wholes" = some (some (.ref f29)))
 (l29 : K.lookup f29 = some ⟨oc29, od29, .func (fO "check_wholes" "check_wholes" Ea .none kv29 dc29 pm29 an29 cd29 ct29), sl29⟩)
 (c29 : W.codeIn K cd29 "check_wholes" = true)
 (k29 : W.keepIn K (.ref f29) = true)
 (a30 : W.nsIn K mainGlobals "check_functions" = some (some (.ref f30)))
 (l30 : K.lookup f30 = some ⟨oc30, od30, .func (fO "check_functions" "check_functions" Hy .none kv30 dc30 pm30 an30 cd30 ct30), sl30⟩)
 (c30 : W.codeIn K cd30 "check_functions" = true)
 (k30 : W.keepIn K (.ref f30) = true)
 (a31 : W.nsIn K mainGlobals "check_names" = some (some (.ref f31)))
 (l31 : K.lookup f31 = some ⟨oc31, od31, .func (fO "check_names" "check_names" Hz .none kv31 dc31 pm31 an31 cd31 ct31), sl31⟩)
 (c31 : W.codeIn K cd31 "check_names" = true)
 (k31 : W.keepIn K (.ref f31) = true)
 (a32 : W.nsIn K mainGlobals "first_parts" = some (some (.ref f32)))
 (l32 : K.lookup f32 = some ⟨oc32, od32, .func (fO "first_parts" "first_parts" ia .none kv32 dc32 pm32 an32 cd32 ct32), sl32⟩)
 (c32 : W.codeIn K cd32 "first_parts" = true)
 (k32 : W.keepIn K (.ref f32) = true)
 (a33 : W.nsIn K mainGlobals "check_unlike" = some (some (.ref f33)))
 (l33 : K.lookup f33 = some ⟨oc33, od33, .func (fO "check_unlike" "check_unlike" Ia .none kv33 dc33 pm33 an33 cd33 ct33), sl33⟩)
 (c33 : W.codeIn K cd33 "check_unlike" = true)
 (k33 : W.keepIn K (.ref f33) = true)
 (a34 : W.findIn K (.ref g6) "__init__" = some (some (.ref f34)))
 (i34 : W.isFn K (.ref f34) = true)
 (l34 : K.lookup f34 = some ⟨oc34, od34, .func (fO "__init__" "Names.__init__" Dp .none kv34 dc34 pm34 an34 cd34 ct34), sl34⟩)
 (c34 : W.codeIn K cd34 "Names.__init__" = true)
 (k34 : W.keepIn K (.ref f34) = true)
 (a40 : W.findIn K (.ref g6) "kind" = some (some (.ref f40)))
 (i40 : W.isFn K (.ref f40) = true)
 (l40 : K.lookup f40 = some ⟨oc40, od40, .func (fO "kind" "Names.kind" Gq .none kv40 dc40 pm40 an40 cd40 ct40), sl40⟩)
 (c40 : W.codeIn K cd40 "Names.kind" = true)
 (k40 : W.keepIn K (.ref f40) = true)
 (a42 : W.findIn K (.ref g6) "function" = some (some (.ref f42)))
 (i42 : W.isFn K (.ref f42) = true)
 (l42 : K.lookup f42 = some ⟨oc42, od42, .func (fO "function" "Names.function" gr .none kv42 dc42 pm42 an42 cd42 ct42), sl42⟩)
 (c42 : W.codeIn K cd42 "Names.function" = true)
 (k42 : W.keepIn K (.ref f42) = true)
 (a44 : W.nsIn K mainGlobals "_law_stream" = some (some (.ref f44)))
 (l44 : K.lookup f44 = some ⟨oc44, od44, .func (fO "_law_stream" "_law_stream" Eb .none kv44 dc44 pm44 an44 cd44 ct44), sl44⟩)
 (c44 : W.codeIn K cd44 "_law_stream" = true)
 (k44 : W.keepIn K (.ref f44) = true)
 (a45 : W.nsIn K mainGlobals "_law_names" = some (some (.ref f45)))
 (l45 : K.lookup f45 = some ⟨oc45, od45, .func (fO "_law_names" "_law_names" ib .none kv45 dc45 pm45 an45 cd45 ct45), sl45⟩)
 (c45 : W.codeIn K cd45 "_law_names" = true)
 (k45 : W.keepIn K (.ref f45) = true)
 (a46 : W.nsIn K mainGlobals "_law_small" = some (some (.ref f46)))
 (l46 : K.lookup f46 = some ⟨oc46, od46, .func (fO "_law_small" "_law_small" Ib .none kv46 dc46 pm46 an46 cd46 ct46), sl46⟩)
 (c46 : W.codeIn K cd46 "_law_small" = true)
 (k46 : W.keepIn K (.ref f46) = true)
 (a47 : W.nsIn K mainGlobals "_law_thing" = some (some (.ref f47)))
 (l47 : K.lookup f47 = some ⟨oc47, od47, .func (fO "_law_thing" "_law_thing" Gr .none kv47 dc47 pm47 an47 cd47 ct47), sl47⟩)
 (c47 : W.codeIn K cd47 "_law_thing" = true)
 (k47 : W.keepIn K (.ref f47) = true)
 (a48 : W.nsIn K mainGlobals "_law_num" = some (some (.ref f48)))
 (l48 : K.lookup f48 = some ⟨oc48, od48, .func (fO "_law_num" "_law_num" Ec .none kv48 dc48 pm48 an48 cd48 ct48), sl48⟩)
 (c48 : W.codeIn K cd48 "_law_num" = true)
 (k48 : W.keepIn K (.ref f48) = true)
 (a49 : W.nsIn K mainGlobals "_law_atom" = some (some (.ref f49)))
 (l49 : K.lookup f49 = some ⟨oc49, od49, .func (fO "_law_atom" "_law_atom" Fw .none kv49 dc49 pm49 an49 cd49 ct49), sl49⟩)
 (c49 : W.codeIn K cd49 "_law_atom" = true)
 (k49 : W.keepIn K (.ref f49) = true)
 (a50 : W.nsIn K mainGlobals "_law_statement" = some (some (.ref f50)))
 (l50 : K.lookup f50 = some ⟨oc50, od50, .func (fO "_law_statement" "_law_statement" Ez .none kv50 dc50 pm50 an50 cd50 ct50), sl50⟩)
 (c50 : W.codeIn K cd50 "_law_statement" = true)
 (k50 : W.keepIn K (.ref f50) = true)
 (a51 : W.nsIn K mainGlobals "_law_odd" = some (some (.ref f51)))
 (l51 : K.lookup f51 = some ⟨oc51, od51, .func (fO "_law_odd" "_law_odd" fx .none kv51 dc51 pm51 an51 cd51 ct51), sl51⟩)
 (c51 : W.codeIn K cd51 "_law_odd" = true)
 (k51 : W.keepIn K (.ref f51) = true)
 (a52 : W.nsIn K mainGlobals "_law_tell" = some (some (.ref f52)))
 (l52 : K.lookup f52 = some ⟨oc52, od52, .func (fO "_law_tell" "_law_tell" fb .none kv52 dc52 pm52 an52 cd52 ct52), sl52⟩)
 (c52 : W.codeIn K cd52 "_law_tell" = true)
 (k52 : W.keepIn K (.ref f52) = true)
 (a53 : W.nsIn K mainGlobals "_law_back" = some (some (.ref f53)))
 (l53 : K.lookup f53 = some ⟨oc53, od53, .func (fO "_law_back" "_law_back" Fb .none kv53 dc53 pm53 an53 cd53 ct53), sl53⟩)
 (c53 : W.codeIn K cd53 "_law_back" = true)
 (k53 : W.keepIn K (.ref f53) = true)
 (a54 : W.nsIn K mainGlobals "law" = some (some (.ref f54)))
 (l54 : K.lookup f54 = some ⟨oc54, od54, .func (fO "law" "law" Cd .none kv54 dc54 pm54 an54 cd54 ct54), sl54⟩)
 (c54 : W.codeIn K cd54 "law" = true)
 (k54 : W.keepIn K (.ref f54) = true)
 (q28 : W.nsIn K mainGlobals "DEEPEST" = some (some (.int 12 q83)))
 (q31 : W.nsIn K mainGlobals "LETTERS" = some (some (.str (Str.ofString "abcdefghijklmnopqrstuvwxyz") q84)))
 (q32 : W.nsIn K mainGlobals "LONGEST_NAME" = some (some (.int 8 q85)))
 (q33 : W.nsIn K mainGlobals "MOST_KINDS" = some (some (.int 3 q86)))
 (q34 : W.nsIn K mainGlobals "MOST_VALUES" = some (some (.int 3600 q87)))
 (q35 : W.nsIn K mainGlobals "WIDEST_BOUNDS" = some (some (.int 60 q88)))
 (q27 : W.nsIn K mainGlobals "DEEDS" = some (some (.ref q0)))
 (q36 : K.lookup q0 = some ⟨.type "dict", none, .dict #[⟨q92, .str (Str.ofString "number") q112, .ref f7⟩, ⟨q93, .str (Str.ofString "unknown") q113, .ref f8⟩, ⟨q94, .str (Str.ofString "weigh") q114, .ref f9⟩, ⟨q95, .str (Str.ofString "plus") q115, .ref f10⟩, ⟨q96, .str (Str.ofString "call") q116, .ref f11⟩, ⟨q97, .str (Str.ofString "read") q117, .ref f12⟩, ⟨q98, .str (Str.ofString "put") q118, .ref f13⟩] q89, #[]⟩)
 (q39 : (q0 == sysModules) = false)
 (q29 : W.nsIn K mainGlobals "LENGTHS_statements" = some (some (.ref q1)))
 (q37 : K.lookup q1 = some ⟨.type "dict", none, .dict #[⟨q99, .str (Str.ofString "atmost") q119, .int 3 q132⟩, ⟨q100, .str (Str.ofString "below") q120, .int 3 q133⟩, ⟨q101, .str (Str.ofString "same") q121, .int 3 q134⟩, ⟨q102, .str (Str.ofString "not") q122, .int 2 q135⟩, ⟨q103, .str (Str.ofString "and") q123, .int 2 q136⟩, ⟨q104, .str (Str.ofString "or") q124, .int 2 q137⟩] q90, #[]⟩)
 (q40 : (q1 == sysModules) = false)
 (q30 : W.nsIn K mainGlobals "LENGTHS_terms" = some (some (.ref q2)))
 (q38 : K.lookup q2 = some ⟨.type "dict", none, .dict #[⟨q105, .str (Str.ofString "number") q125, .int 2 q138⟩, ⟨q106, .str (Str.ofString "unknown") q126, .int 2 q139⟩, ⟨q107, .str (Str.ofString "weigh") q127, .int 3 q140⟩, ⟨q108, .str (Str.ofString "plus") q128, .int 2 q141⟩, ⟨q109, .str (Str.ofString "call") q129, .int 3 q142⟩, ⟨q110, .str (Str.ofString "read") q130, .int 3 q143⟩, ⟨q111, .str (Str.ofString "put") q131, .int 4 q144⟩] q91, #[]⟩)
 (q41 : (q2 == sysModules) = false)
 (pg5 : W.plainGet K g5 Str.empty = true)
 (hd5 : W.hasDictIn K g5 = true)
 (po5 : W.plainOver K g5 = true)
 (sa5 : W.findIn K (.ref g5) "__setattr__" = some (some (.builtin "object.__setattr__")))
 (pg6 : W.plainGet K g6 Str.empty = true)
 (hd6 : W.hasDictIn K g6 = true)
 (po6 : W.plainOver K g6 = true)
 (sa6 : W.findIn K (.ref g6) "__setattr__" = some (some (.builtin "object.__setattr__")))
 (q54 : W.findIn K (.ref g5) "known" = some none)
 (q55 : W.findIn K (.ref g5) "names" = some none)
 (q56 : W.findIn K (.ref g5) "statements" = some none)
 (q57 : W.findIn K (.ref g6) "arrays" = some none)
 (q58 : W.findIn K (.ref g6) "deeds" = some none)
 (q59 : W.findIn K (.ref g6) "functions" = some none)
 (q60 : W.findIn K (.ref g6) "limits" = some none)
 (q61 : W.findIn K (.ref g6) "numbers" = some none)
 (q62 : W.findIn K (.ref g6) "things" = some none)
 (q63 : W.findIn K (.ref g6) "unknowns" = some none)
 (q64 : W.findIn K (.ref g6) "wholes" = some none)
 (mk5 : W.makesIn K g5 = true)
 (kc5 : W.keepIn K (.ref g5) = true)
 (mk6 : W.makesIn K g6 = true)
 (kc6 : W.keepIn K (.ref g6) = true)
 (xc1 : W.excIn K g1 [.type "ValueError", .type "Exception", .type "BaseException", .type "object"] "ValueError.__new__" = true)
 (q7 : W.clsIn K g1 = some ci1)
 (q11 : W.findIn K (.ref g1) "__getattribute__" = some (some (.builtin "BaseException.__getattribute__")))
 (q15 : W.findIn K (.ref g1) "__getattr__" = some none)
 (q19 : W.findIn K (.ref g1) "__class__" = some (some (.builtin "object.__class__")))
 (q23 : W.mroIn K g1 (.type "object") = some true)
 (q3 : W.mroIn K g1 (.type "BaseException") = some true)
 (xc2 : W.excIn K g2 [.type "ValueError", .type "Exception", .type "BaseException", .type "object"] "ValueError.__new__" = true)
 (q8 : W.clsIn K g2 = some ci2)
 (q12 : W.findIn K (.ref g2) "__getattribute__" = some (some (.builtin "BaseException.__getattribute__")))
 (q16 : W.findIn K (.ref g2) "__getattr__" = some none)
 (q20 : W.findIn K (.ref g2) "__class__" = some (some (.builtin "object.__class__")))
 (q24 : W.mroIn K g2 (.type "object") = some true)
 (q4 : W.mroIn K g2 (.type "BaseException") = some true)
 (xc3 : W.excIn K g3 [.type "ValueError", .type "Exception", .type "BaseException", .type "object"] "ValueError.__new__" = true)
 (q9 : W.clsIn K g3 = some ci3)
 (q13 : W.findIn K (.ref g3) "__getattribute__" = some (some (.builtin "BaseException.__getattribute__")))
 (q17 : W.findIn K (.ref g3) "__getattr__" = some none)
 (q21 : W.findIn K (.ref g3) "__class__" = some (some (.builtin "object.__class__")))
 (q25 : W.mroIn K g3 (.type "object") = some true)
 (q5 : W.mroIn K g3 (.type "BaseException") = some true)
 (xc4 : W.excIn K g4 [.type "ValueError", .type "Exception", .type "BaseException", .type "object"] "ValueError.__new__" = true)
 (q10 : W.clsIn K g4 = some ci4)
 (q14 : W.findIn K (.ref g4) "__getattribute__" = some (some (.builtin "BaseException.__getattribute__")))
 (q18 : W.findIn K (.ref g4) "__getattr__" = some none)
 (q22 : W.findIn K (.ref g4) "__class__" = some (some (.builtin "object.__class__")))
 (q26 : W.mroIn K g4 (.type "object") = some true)
 (q6 : W.mroIn K g4 (.type "BaseException") = some true)
 (ehn : W.specialIn K (.builtin "object.__class__") "__get__" = some (some (.builtin "getset_descriptor.__get__")))
 (etk : W.takesIn K (.builtin "object.__class__") = some true)
 (q42 : W.kitOne K (.ref g1) (.ref g3) = some false)
 (q43 : W.kitOne K (.ref g1) (.ref g4) = some false)
 (q44 : W.kitOne K (.ref g1) (.ref g0) = some true)
 (q45 : W.kitOne K (.ref g3) (.ref g3) = some true)
 (q46 : W.kitOne K (.ref g3) (.ref g4) = some false)
 (q47 : W.kitOne K (.ref g3) (.ref g0) = some true)
 (q48 : W.kitOne K (.ref g2) (.ref g3) = some false)
 (q49 : W.kitOne K (.ref g2) (.ref g4) = some false)
 (q50 : W.kitOne K (.ref g2) (.ref g0) = some true)
 (q51 : W.kitOne K (.ref g4) (.ref g3) = some false)
 (q52 : W.kitOne K (.ref g4) (.ref g4) = some true)
 (q53 : W.kitOne K (.ref g4) (.ref g0) = some true)
 (q65 : W.exmOne K (.ref g1) (.ref g2) = some false)
 (q66 : W.exmOne K (.ref g3) (.ref g3) = some true)
 (q67 : W.exmOne K (.ref g3) (.ref g2) = some false)
 (q68 : W.exmOne K (.ref g2) (.ref g2) = some true)
 (q69 : W.exmOne K (.ref g4) (.ref g2) = some false)
 (q70 : W.exmOne K (.ref g4) (.ref g4) = some true)
 (q71 : W.nsIn K mainGlobals "abs" = some none)
 (q72 : W.nsIn K mainGlobals "all" = some none)
 (q73 : W.nsIn K mainGlobals "bool" = some none)
 (q74 : W.nsIn K mainGlobals "int" = some none)
 (q75 : W.nsIn K mainGlobals "isinstance" = some none)
 (q76 : W.nsIn K mainGlobals "len" = some none)
 (q77 : W.nsIn K mainGlobals "list" = some none)
 (q78 : W.nsIn K mainGlobals "range" = some none)
 (q79 : W.nsIn K mainGlobals "set" = some none)
 (q80 : W.nsIn K mainGlobals "str" = some none)
 (q81 : W.nsIn K mainGlobals "tuple" = some none)
 (q82 : W.nsIn K mainGlobals "zip" = some none)
 : ∃ (ad : Nat → Addr) (fd : Nat → FuncData) (cf : Nat → Addr), Txt K mg fd ⟨w, cf, ad⟩ ∧ ∀ (s : Shared) (u : Value), BindsTo s (fd 54) ⟨[u], []⟩ [("_law_script", u)] := by
 have X1 : ExcC K g1 := ⟨Option.isSome_iff_exists.mpr ⟨_, q7⟩, q11, q15, q19, ehn, etk, q23, q3⟩
 have X2 : ExcC K g2 := ⟨Option.isSome_iff_exists.mpr ⟨_, q8⟩, q12, q16, q20, ehn, etk, q24, q4⟩
 have X3 : ExcC K g3 := ⟨Option.isSome_iff_exists.mpr ⟨_, q9⟩, q13, q17, q21, ehn, etk, q25, q5⟩
 have X4 : ExcC K g4 := ⟨Option.isSome_iff_exists.mpr ⟨_, q10⟩, q14, q18, q22, ehn, etk, q26, q6⟩
 refine ⟨(uv [0, f1, f2, f3, f4, f5, f6, f7, f8, f9, f10, f11, f12, f13, f14, f15, f16, f17, f18, f19, f20, f21, 0, f23, f24, f25, f26, f27, f28, f29, f30, f31, f32, f33, f34, 0, 0, 0, 0, 0, f40, 0, f42, 0, f44, f45, f46, f47, f48, f49, f50, f51, f52, f53, f54]), (fun i => ([default, fO "is_whole" "is_whole" Hm .none kv1 dc1 pm1 an1 cd1 ct1, fO "is_fraction" "is_fraction" ft .none kv2 dc2 pm2 an2 cd2 ct2, fO "common_divisor" "common_divisor" Gm .none kv3 dc3 pm3 an3 cd3 ct3, fO "word_of" "word_of" Hn .none kv4 dc4 pm4 an4 cd4 ct4, fO "kind_within" "kind_within" Dz .none kv5 dc5 pm5 an5 cd5 ct5, fO "check_kinds" "check_kinds" dt .none kv6 dc6 pm6 an6 cd6 ct6, fO "kind_of_number" "kind_of_number" Hq .none kv7 dc7 pm7 an7 cd7 ct7, fO "kind_of_unknown" "kind_of_unknown" Ft .none kv8 dc8 pm8 an8 cd8 ct8, fO "kind_of_weigh" "kind_of_weigh" fu .none kv9 dc9 pm9 an9 cd9 ct9, fO "kind_of_plus" "kind_of_plus" Fu .none kv10 dc10 pm10 an10 cd10 ct10, fO "kind_of_call" "kind_of_call" Dt .none kv11 dc11 pm11 an11 cd11 ct11, fO "kind_of_read" "kind_of_read" Fv .none kv12 dc12 pm12 an12 cd12 ct12, fO "kind_of_put" "kind_of_put" fw .none kv13 dc13 pm13 an13 cd13 ct13, fO "check_statement" "check_statement" Gn .none kv14 dc14 pm14 an14 cd14 ct14, fO "check_within" "check_within" eu .none kv15 dc15 pm15 an15 cd15 ct15, fO "check_all" "check_all" Ew .none kv16 dc16 pm16 an16 cd16 ct16, fO "check_atom" "check_atom" Ey .none kv17 dc17 pm17 an17 cd17 ct17, fO "__init__" "House.__init__" gp .none kv18 dc18 pm18 an18 cd18 ct18, fO "tell" "House.tell" Gp .none kv19 dc19 pm19 an19 cd19 ct19, fO "back" "House.back" gq .none kv20 dc20 pm20 an20 cd20 ct20, fO "told" "House.told" Hr .none kv21 dc21 pm21 an21 cd21 ct21, default, fO "is_name" "is_name" Hs .none kv23 dc23 pm23 an23 cd23 ct23, fO "is_row" "is_row" Ht .none kv24 dc24 pm24 an24 cd24 ct24, fO "is_kind" "is_kind" Hu .none kv25 dc25 pm25 an25 cd25 ct25, fO "is_list_of_names" "is_list_of_names" Hv .none kv26 dc26 pm26 an26 cd26 ct26, fO "is_bounded" "is_bounded" Hw .none kv27 dc27 pm27 an27 cd27 ct27, fO "is_function" "is_function" Hx .none kv28 dc28 pm28 an28 cd28 ct28, fO "check_wholes" "check_wholes" Ea .none kv29 dc29 pm29 an29 cd29 ct29, fO "check_functions" "check_functions" Hy .none kv30 dc30 pm30 an30 cd30 ct30, fO "check_names" "check_names" Hz .none kv31 dc31 pm31 an31 cd31 ct31, fO "first_parts" "first_parts" ia .none kv32 dc32 pm32 an32 cd32 ct32, fO "check_unlike" "check_unlike" Ia .none kv33 dc33 pm33 an33 cd33 ct33, fO "__init__" "Names.__init__" Dp .none kv34 dc34 pm34 an34 cd34 ct34, default, default, default, default, default, fO "kind" "Names.kind" Gq .none kv40 dc40 pm40 an40 cd40 ct40, default, fO "function" "Names.function" gr .none kv42 dc42 pm42 an42 cd42 ct42, default, fO "_law_stream" "_law_stream" Eb .none kv44 dc44 pm44 an44 cd44 ct44, fO "_law_names" "_law_names" ib .none kv45 dc45 pm45 an45 cd45 ct45, fO "_law_small" "_law_small" Ib .none kv46 dc46 pm46 an46 cd46 ct46, fO "_law_thing" "_law_thing" Gr .none kv47 dc47 pm47 an47 cd47 ct47, fO "_law_num" "_law_num" Ec .none kv48 dc48 pm48 an48 cd48 ct48, fO "_law_atom" "_law_atom" Fw .none kv49 dc49 pm49 an49 cd49 ct49, fO "_law_statement" "_law_statement" Ez .none kv50 dc50 pm50 an50 cd50 ct50, fO "_law_odd" "_law_odd" fx .none kv51 dc51 pm51 an51 cd51 ct51, fO "_law_tell" "_law_tell" fb .none kv52 dc52 pm52 an52 cd52 ct52, fO "_law_back" "_law_back" Fb .none kv53 dc53 pm53 an53 cd53 ct53, fO "law" "law" Cd .none kv54 dc54 pm54 an54 cd54 ct54] : List FuncData).getD i default), (uv [g0, g1, g2, g3, g4, g5, g6]), ⟨
  (ay (st := Hm) l1 c1 k1),
  (W.mg_of X G a1),
  (air),
  (ay (st := ft) l2 c2 k2),
  (W.mg_of X G a2),
  (ais),
  (ay (st := Gm) l3 c3 k3),
  (W.mg_of X G a3),
  (ait),
  (ay (st := Hn) l4 c4 k4),
  (W.mg_of X G a4),
  (aiu),
  (ay (st := Dz) l5 c5 k5),
  (W.mg_of X G a5),
  (aiv),
  (ay (st := dt) l6 c6 k6),
  (W.mg_of X G a6),
  (aiw),
  (ay (st := Hq) l7 c7 k7),
  (W.mg_of X G a7),
  (aix),
  (ay (st := Ft) l8 c8 k8),
  (W.mg_of X G a8),
  (aiy),
  (ay (st := fu) l9 c9 k9),
  (W.mg_of X G a9),
  (aiz),
  (ay (st := Fu) l10 c10 k10),
  (W.mg_of X G a10),
  (aja),
  (ay (st := Dt) l11 c11 k11),
  (W.mg_of X G a11),
  (ajb),
  (ay (st := Fv) l12 c12 k12),
  (W.mg_of X G a12),
  (ajc),
  (ay (st := fw) l13 c13 k13),
  (W.mg_of X G a13),
  (ajd),
  (ay (st := Gn) l14 c14 k14),
  (W.mg_of X G a14),
  (aje),
  (ay (st := eu) l15 c15 k15),
  (W.mg_of X G a15),
  (ajf),
  (ay (st := Ew) l16 c16 k16),
  (W.mg_of X G a16),
  (ajg),
  (ay (st := Ey) l17 c17 k17),
  (W.mg_of X G a17),
  (ajh),
  (ay (st := gp) l18 c18 k18),
  (aji),
  (ay (st := Gp) l19 c19 k19),
  (ajj),
  (ay (st := gq) l20 c20 k20),
  (ajk),
  (ay (st := Hr) l21 c21 k21),
  (ajl),
  (ay (st := Hs) l23 c23 k23),
  (W.mg_of X G a23),
  (ajm),
  (ay (st := Ht) l24 c24 k24),
  (W.mg_of X G a24),
  (ajn),
  (ay (st := Hu) l25 c25 k25),
  (W.mg_of X G a25),
  (ajo),
  (ay (st := Hv) l26 c26 k26),
  (W.mg_of X G a26),
  (ajp),
  (ay (st := Hw) l27 c27 k27),
  (W.mg_of X G a27),
  (ajq),
  (ay (st := Hx) l28 c28 k28),
  (W.mg_of X G a28),
  (ajr),
  (ay (st := Ea) l29 c29 k29),
  (W.mg_of X G a29),
  (ajs),
  (ay (st := Hy) l30 c30 k30),
  (W.mg_of X G a30),
  (ajt),
  (ay (st := Hz) l31 c31 k31),
  (W.mg_of X G a31),
  (aju),
  (ay (st := ia) l32 c32 k32),
  (W.mg_of X G a32),
  (ajv),
  (ay (st := Ia) l33 c33 k33),
  (W.mg_of X G a33),
  (ajw),
  (ay (st := Dp) l34 c34 k34),
  (ajx),
  (ay (st := Gq) l40 c40 k40),
  (ajy),
  (ay (st := gr) l42 c42 k42),
  (ajz),
  (ay (st := Eb) l44 c44 k44),
  (W.mg_of X G a44),
  (aka),
  (ay (st := ib) l45 c45 k45),
  (W.mg_of X G a45),
  (akb),
  (ay (st := Ib) l46 c46 k46),
  (W.mg_of X G a46),
  (akc),
  (ay (st := Gr) l47 c47 k47),
  (W.mg_of X G a47),
  (akd),
  (ay (st := Ec) l48 c48 k48),
  (W.mg_of X G a48),
  (ake),
  (ay (st := Fw) l49 c49 k49),
  (W.mg_of X G a49),
  (akf),
  (ay (st := Ez) l50 c50 k50),
  (W.mg_of X G a50),
  (akg),
  (ay (st := fx) l51 c51 k51),
  (W.mg_of X G a51),
  (akh),
  (ay (st := fb) l52 c52 k52),
  (W.mg_of X G a52),
  (aki),
  (ay (st := Fb) l53 c53 k53),
  (W.mg_of X G a53),
  (akj),
  (ay (st := Cd) l54 c54 k54),
  (W.mg_of X G a54),
  (akk),
  (⟨_, W.mg_of X G q28, ⟨_, rfl⟩⟩),
  (⟨_, W.mg_of X G q31, ⟨_, rfl⟩⟩),
  (⟨_, W.mg_of X G q32, ⟨_, rfl⟩⟩),
  (⟨_, W.mg_of X G q33, ⟨_, rfl⟩⟩),
  (⟨_, W.mg_of X G q34, ⟨_, rfl⟩⟩),
  (⟨_, W.mg_of X G q35, ⟨_, rfl⟩⟩),
  (⟨_, _, _, _, W.mg_of X G q27, q36, ⟨rfl, rfl, rfl⟩, rfl, q39, .cons rfl rfl (.cons rfl rfl (.cons rfl rfl (.cons rfl rfl (.cons rfl rfl (.cons rfl rfl (.cons rfl rfl (.nil)))))))⟩),
  (⟨_, _, _, _, W.mg_of X G q29, q37, ⟨rfl, rfl, rfl⟩, rfl, q40, .cons rfl ⟨_, rfl⟩ (.cons rfl ⟨_, rfl⟩ (.cons rfl ⟨_, rfl⟩ (.cons rfl ⟨_, rfl⟩ (.cons rfl ⟨_, rfl⟩ (.cons rfl ⟨_, rfl⟩ (.nil))))))⟩),
  (⟨_, _, _, _, W.mg_of X G q30, q38, ⟨rfl, rfl, rfl⟩, rfl, q41, .cons rfl ⟨_, rfl⟩ (.cons rfl ⟨_, rfl⟩ (.cons rfl ⟨_, rfl⟩ (.cons rfl ⟨_, rfl⟩ (.cons rfl ⟨_, rfl⟩ (.cons rfl ⟨_, rfl⟩ (.cons rfl ⟨_, rfl⟩ (.nil)))))))⟩),
  (⟨pg5, hd5, po5, sa5⟩),
  (⟨pg6, hd6, po6, sa6⟩),
  (q54),
  (q55),
  (q56),
  (q57),
  (q58),
  (q59),
  (q60),
  (q61),
  (q62),
  (q63),
  (q64),
  (⟨a20, i20, k20⟩),
  (⟨a19, i19, k19⟩),
  (⟨a21, i21, k21⟩),
  (⟨a42, i42, k42⟩),
  (⟨a40, i40, k40⟩),
  (⟨mk5, a18, i18, kc5⟩),
  (⟨mk6, a34, i34, kc6⟩),
  (W.mg_of X G ac1),
  (W.mg_of X G ac3),
  (W.mg_of X G ac2),
  (W.mg_of X G ac5),
  (W.mg_of X G ac6),
  (W.mg_of X G ac4),
  (W.mg_of X G ac0),
  (ac1),
  (xc1),
  (ac2),
  (xc2),
  (ac3),
  (xc3),
  (ac4),
  (xc4),
  (by
  intro n k h
  unfold tab at h
  split at h
  · cases (h.symm.trans (by rfl : _ = some false)); exact ⟨X1, q42⟩
  · cases (h.symm.trans (by rfl : _ = some false)); exact ⟨X2, q48⟩
  · cases (h.symm.trans (by rfl : _ = some true)); exact ⟨X3, q45⟩
  · cases (h.symm.trans (by rfl : _ = some false)); exact ⟨X4, q51⟩
  · cases h),
  (by
  intro n k h
  unfold tab at h
  split at h
  · cases (h.symm.trans (by rfl : _ = some false)); exact ⟨X1, q43⟩
  · cases (h.symm.trans (by rfl : _ = some false)); exact ⟨X2, q49⟩
  · cases (h.symm.trans (by rfl : _ = some false)); exact ⟨X3, q46⟩
  · cases (h.symm.trans (by rfl : _ = some true)); exact ⟨X4, q52⟩
  · cases h),
  (by
  intro n k h
  unfold tab at h
  split at h
  · cases (h.symm.trans (by rfl : _ = some true)); exact ⟨X1, q44⟩
  · cases (h.symm.trans (by rfl : _ = some true)); exact ⟨X2, q50⟩
  · cases (h.symm.trans (by rfl : _ = some true)); exact ⟨X3, q47⟩
  · cases (h.symm.trans (by rfl : _ = some true)); exact ⟨X4, q53⟩
  · cases h),
  (by
  intro n h
  unfold tab at h
  split at h
  · exact absurd h (by decide)
  · exact absurd h (by decide)
  · exact q66
  · exact absurd h (by decide)
  · cases h),
  (by
  intro n h
  unfold tab at h
  split at h
  · exact absurd h (by decide)
  · exact absurd h (by decide)
  · exact absurd h (by decide)
  · exact q70
  · cases h),
  (by
  intro n k h
  unfold tab at h
  split at h
  · have e := Option.some.inj (h.symm.trans (by rfl : _ = some false)); subst e; exact q65
  · have e := Option.some.inj (h.symm.trans (by rfl : _ = some true)); subst e; exact q68
  · have e := Option.some.inj (h.symm.trans (by rfl : _ = some false)); subst e; exact q67
  · have e := Option.some.inj (h.symm.trans (by rfl : _ = some false)); subst e; exact q69
  · cases h),
  (W.mg_none_of X G q71),
  (W.mg_none_of X G q72),
  (W.mg_none_of X G q73),
  (W.mg_none_of X G q74),
  (W.mg_none_of X G q75),
  (W.mg_none_of X G q76),
  (W.mg_none_of X G q77),
  (W.mg_none_of X G q78),
  (W.mg_none_of X G q79),
  (W.mg_none_of X G q80),
  (W.mg_none_of X G q81),
  (W.mg_none_of X G q82)⟩, fun s u => .of_eq (aiq _ _ _ _ _ _ [u] rfl)⟩
def Om (FF n : Nat) : List D → Sto → Res D := Bl tab fns FF n 54
theorem walk {n : Nat} {l : W.OpenLaw} {q : Program} {loose : List Str} {XP : (Str → Option Value) → Heap → Prop} {YP : World → Heap → Prop} {d : DefRec} {K : Params → W.Frag} (hn : l.most = some 63) (hdf : d.params.defaults = []) (hN : d.name = "law") (hr : Room (2 * n) callerA)
 (hY : ∀ (w : World) (h : Heap), YP w h → (K w.params).In h)
 (hT : ∀ (w : World) (mg : Str → Option Value) (h : Heap), (K w.params).In h → h.Ns mainGlobals mg → ∃ (ad : Nat → Addr) (fd : Nat → FuncData) (cf : Nat → Addr), Txt (K w.params) mg fd ⟨w, cf, ad⟩ ∧ ∀ (s : Shared) (u : Value), BindsTo s (fd 54) ⟨[u], []⟩ [("_law_script", u)])
 (hm : ∀ ns : List Int, ns.length ≤ 63 → ∃ FF st, Om FF n [.loc 0] [.frz (ns.map D.int)] = .ok (.bl true) st) :
 W.WalkO q loose XP YP l.row.toRowW d [] (fun f vs => PySem.call f vs) := by
 refine L2.yn (n := 63) (k := 2 * n) (x := "_law_script") (CX := fun w => CXd l.prog w) (sp := fun w vs H Q E => ∀ cls, ∃ FF, spD (K w.params) cls 1 (Om FF n) vs H Q E) hn (by decide) hdf hr hY ?_ ?_ fun w H s e s' z => abf H s e s' z
 · intro w mg fa h X G hfa
   obtain ⟨ad, fd, cf, T, hb⟩ := hT w mg h X G
   rw [hN, T.m_54] at hfa
   cases hfa
   refine ⟨fd 54, hb, fun base _ _ => ?_⟩
   have F := fun FF => (Uu (Pr := l.prog) (w := w) (base := base) (FF := FF) (cls := ⟨w, cf, ad⟩) rfl T n).i_54
   exact ⟨fun vs H Q E h => let ⟨FF, h⟩ := h ⟨w, cf, ad⟩; (F FF).len vs H Q E h, fun A outer s H args us vs Q E h1 h2 h3 h4 h => let ⟨FF, h⟩ := h ⟨w, cf, ad⟩; (F FF).run A outer s H args us vs Q E h1 h2 h3 h4 h⟩
 · exact fun w H a ns hl hO hS cls => let ⟨FF, st, e⟩ := hm ns hl; ⟨FF, abe e H a hO hS⟩
end My
namespace My
open PySem L2 DD
local macro_rules | `(tactic| infer_instance) => `(tactic| first
 | with_reducible refine ag ?_
 | with_reducible refine Ag ?_
 | with_reducible refine w_var rfl ?_
 | with_reducible refine Ad ?_
 | with_reducible refine Aa ?_
 | with_reducible refine af ?_
 | with_reducible refine Aj ?_
 | with_reducible refine Ax ?_
 | with_reducible refine az ?_
 | with_reducible refine cu ?_
 | with_reducible refine Ba ?_
 | with_reducible refine bf ?_
 | with_reducible refine Bq (by decide) ?_
 | (with_reducible refine And.intro (a := _ < List.length _) (odt rfl) ?_) | (with_reducible refine And.intro (a := List.length _ ≤ sizeLine) (odt rfl) ?_))
abbrev W (x : String) : D := .str (Str.ofString x)
def UNK : List (D × D) := [(W "x", W "num"), (W "y", W "num"), (W "n", W "num"), (W "a", W "thing"), (W "b", W "thing"), (W "c", W "thing"), (W "p", W "array"), (W "q", W "array")]
def DEE : List (D × D) := [(W "f", .tup [.tup [W "num"], W "num"]), (W "g", .tup [.tup [W "thing"], W "thing"]), (W "h", .tup [.tup [W "thing", W "num"], W "num"]), (W "k", .tup [.tup [W "num", W "num"], W "num"])]
def FLD (nl : Nat) : List (Str × D) := [(Str.ofString "numbers", .loc (nl + 28)), (Str.ofString "wholes", .loc (nl + 29)), (Str.ofString "things", .loc (nl + 30)), (Str.ofString "functions", .loc (nl + 31)), (Str.ofString "arrays", .loc (nl + 32)), (Str.ofString "limits", .loc (nl + 33)), (Str.ofString "deeds", .loc (nl + 34)), (Str.ofString "unknowns", .loc (nl + 37))]
section
variable {nl : Nat}
theorem akm : (FLD nl).lookup (Str.ofString "unknowns") = some (.loc (nl + 37)) := by kernel_rfl
theorem akn : (FLD nl).lookup (Str.ofString "deeds") = some (.loc (nl + 34)) := by kernel_rfl
theorem Uv : (FLD nl).lookup (Str.ofString "kind") = none := by kernel_rfl
theorem ako : (FLD nl).lookup (Str.ofString "function") = none := by kernel_rfl
end
def MK : E := .mk 5 18 (.cons (.call 45 .nil []) .nil)
def ST1 (X : List D) : Sto := match Ab tab (Bl tab fns 9 12) MK [] [.frz X] with | .ok _ s => s | _ => []
def ST2 (X : List D) : Sto := match Ab tab (Bl tab fns 9 12) MK [] (ST1 X) with | .ok _ s => s | _ => []
theorem mk1 : Ab tab (Bl tab fns FF (n + 12)) MK env [.frz X] = .ok (.loc 46) (ST1 X) := by kernel_rfl
theorem mk2 : Ab tab (Bl tab fns FF (n + 12)) MK env (ST1 X) = .ok (.loc 93) (ST2 X) := by kernel_rfl
def HF (nl S : Nat) : List (Str × D) := [(Str.ofString "names", .loc nl), (Str.ofString "statements", .loc S), (Str.ofString "known", .non)]
theorem oo : (ST2 X).length = 95 := by kernel_rfl
theorem akp : (ST2 X)[0]? = some (.frz X) := by kernel_rfl
theorem akq : (ST2 X)[6]? = some (.ins 6 (FLD 6)) := by kernel_rfl
theorem akr : (ST2 X)[40]? = some (.dct DEE) := by kernel_rfl
theorem aks : (ST2 X)[43]? = some (.dct UNK) := by kernel_rfl
theorem akt : (ST2 X)[53]? = some (.ins 6 (FLD 53)) := by kernel_rfl
theorem aku : (ST2 X)[87]? = some (.dct DEE) := by kernel_rfl
theorem akv : (ST2 X)[90]? = some (.dct UNK) := by kernel_rfl
theorem akw : (ST2 X)[46]? = some (.ins 5 (HF 6 47)) := by kernel_rfl
theorem akx : (ST2 X)[47]? = some (.lst []) := by kernel_rfl
theorem aky : (ST2 X)[93]? = some (.ins 5 (HF 53 94)) := by kernel_rfl
theorem akz : (ST2 X)[94]? = some (.lst []) := by kernel_rfl
section
variable {ec : Nat} {α β : Type} {t : Nat → Ty → Option Bool} {call : Or} {F : Nat} {env : DD.Env} {st : Sto} {P P' : Sto → Prop}
def Xr (k : Nat) (P : Sto → Prop) (r : Res α) : Prop := ∃ s, r = .exc k s ∧ P s
theorem Xr.imp {r : Res α} (h : Xr ec P r) (g : ∀ s, P s → P' s) : Xr ec P' r := by obtain ⟨s, e, h⟩ := h; exact ⟨s, e, g s h⟩
theorem Je (h : Xr ec P r) : Xr ec P (r.bind f) := by obtain ⟨s, rfl, h⟩ := h; exact ⟨s, rfl, h⟩
theorem Gw (h : Wr r fun a s => Xr ec P (f a s)) : Xr ec P (r.bind f) := by obtain ⟨a, s, rfl, h⟩ := h; exact h
theorem bu (h : Xr ec P (Ak t call F c env st)) : Xr ec P (Ah t call F (.cons c r) env st) := by rw [DD.Nf]; exact Je h
theorem Ee (h : Wr (Ak t call F c env st) fun f s => ∃ env', f = .next env' ∧ Xr ec P (Ah t call F r env' s)) : Xr ec P (Ah t call F (.cons c r) env st) := by
 rw [DD.Nf]
 refine Gw (h.imp fun f s h => ?_)
 obtain ⟨env', rfl, h⟩ := h
 exact h
theorem x_raise (h : P st) : Xr ec P (Ak t call F (.raiseS ec) env st) := ⟨st, by rw [Ak], h⟩
theorem dq (h : P st) : Xr ec P (Ah t call F (.cons (.raiseS ec) r) env st) := bu (x_raise h)
theorem Ic (h : Xr ec P (Ab t call e env st)) : Xr ec P (Ak t call F (.ex e) env st) := by rw [DD.sd]; exact Je h
theorem ala (h : Xr ec P (Ab t call e env st)) : Xr ec P (Ak t call F (.ret e) env st) := by rw [DD.Sb]; exact Je h
theorem Ga (h : Wr (aq t call c env st) fun x s => (x = true → Xr ec P (Ah t call F a env s)) ∧ (x = false → Xr ec P (Ah t call F b env s))) : Xr ec P (Ak t call F (.ifS c a b) env st) := by
 rw [DD.Sa]
 refine Gw (h.imp fun x s h => ?_)
 cases x with
 | true => exact h.1 rfl
 | false => exact h.2 rfl
theorem Ef (h : Wr (Av t call es env st) fun ds s => Xr ec P (call f (ds ++ dv) s)) : Xr ec P (Ab t call (.call f es dv) env st) := by rw [Ab]; exact Gw h
theorem alb (h : Wr (Ab t call f env st) fun x s => ∃ n i, x = .loc n ∧ s[n]? = some (.fnc i) ∧ is.contains i = true ∧ Wr (Av t call es env s) fun ds s => Xr ec P (call i ds s)) : Xr ec P (Ab t call (.callV is f es) env st) := by
 rw [Ab]
 refine Gw (h.imp fun x s h => ?_)
 obtain ⟨n, i, rfl, e, hi, h⟩ := h
 simp only [e, hi, if_true]
 exact Gw h
theorem Dk (env : DD.Env) (h : fns[f]? = some ⟨np, nl, b⟩) (hl : args.length = np) (hn : np ≤ nl) (he : args.map some ++ List.replicate (nl - np) none = env) (w : Xr ec P (Ah t (Bl t fns F n) F b env st)) : Xr ec P (Bl t fns F (n + 1) f args st) := by
 show Xr ec P (match fns[f]? with
  | some fn => if args.length = fn.np ∧ fn.np ≤ fn.nl then fin (Ah t (Bl t fns F n) F fn.body (args.map some ++ List.replicate (fn.nl - fn.np) none) st) else .bad
  | none => .bad)
 rw [h]; simp only; rw [if_pos ⟨hl, hn⟩, he]
 unfold fin
 exact Je w
theorem uw (h : Wr (Ab t call o env st) fun x s => ∃ n fs, x = .loc n ∧ s[n]? = some (.ins c fs) ∧ fs.lookup m = none ∧ Wr (Av t call es env s) fun ds s => Xr ec P (call f (.loc n :: ds) s)) : Xr ec P (Ab t call (.br c f m o es) env st) := by
 rw [Ab]
 refine Gw (h.imp fun x s h => ?_)
 obtain ⟨n, fs, rfl, e, hm, h⟩ := h
 simp only [e, hm, and_self, if_true]
 exact Gw h
theorem Oo (h : Xr ec P (Ab t call e env st)) : Xr ec P (Ak t call F (.set i e) env st) := by rw [Ak]; exact Je h
theorem alc (ht : t k (.o c) = some true) (h : Xr k P (Ah t call F b env st)) : Xr d (fun s => ∃ s0, s = s0 ++ [.exn k] ∧ P s0) (Ak t call F (.tryR b c d) env st) := by
 obtain ⟨s, e, h⟩ := h
 rw [Ak, e]
 simp only [ht]
 exact ⟨_, rfl, s, rfl, h⟩
theorem ald (ht : t k (.o c) = some false) (h : Xr k P (Ah t call F b env st)) : Xr k P (Ak t call F (.tryR b c d) env st) := by
 obtain ⟨s, e, h⟩ := h
 rw [Ak, e]
 simp only [ht]
 exact ⟨_, rfl, h⟩
theorem ale (h : Wr (Ah t call F b env st) QF) : Wr (Ak t call F (.tryR b c d) env st) QF := by
 obtain ⟨f, s, e, q⟩ := h
 rw [Ak, e]
 exact ⟨f, s, rfl, q⟩
theorem Uw (ht : t k (.o c) = some true) (hi : i < env.length) (h : Xr k (fun s => Wr (Ah t call F h' (blank env i (.loc s.length)) (s ++ [.exn k])) fun f s2 => ∃ d, f = .ret d ∧ QF (.ret d) s2) (Ah t call F b env st)) : Wr (Ak t call F (.tryS b c i h') env st) QF := by
 obtain ⟨s, e, f, s2, e2, d, rfl, q⟩ := h
 rw [Ak, e]
 simp only [ht, hi, if_true, e2]
 exact ⟨_, _, rfl, q⟩
end
section
variable {FF n nl : Nat} {st : Sto}
abbrev C (FF n : Nat) := Bl tab fns FF n
def Ex (s s' : Sto) : Prop := ∀ (i : Nat) (c : Cell), s[i]? = some c → s'[i]? = some c
theorem Ex.refl (s : Sto) : Ex s s := fun _ _ h => h
theorem Ex.trans {a b c : Sto} (h : Ex a b) (g : Ex b c) : Ex a c := fun i x e => g i x (h i x e)
theorem Ex.app : Ex s (s ++ m) := fun i c e => by rw [List.getElem?_append_left (List.getElem?_eq_some_iff.mp e).1]; exact e
theorem Ex.one {s : Sto} {c : Cell} : Ex s (s ++ [c]) := Ex.app
theorem Ex.at {a b : Sto} (h : Ex a b) {i : Nat} {c : Cell} (e : a[i]? = some c) : b[i]? = some c := h i c e
structure Has (nl : Nat) (s : Sto) : Prop where
 i : s[nl]? = some (.ins 6 (FLD nl))
 d : s[(nl + 34)]? = some (.dct DEE)
 u : s[(nl + 37)]? = some (.dct UNK)
theorem Has.ex {nl : Nat} {a b : Sto} (h : Has nl a) (e : Ex a b) : Has nl b := ⟨e.at h.i, e.at h.d, e.at h.u⟩
theorem alf : C FF (n + 1) 4 [.tup [.str x]] st = .ok (.str x) st := by kernel_rfl
theorem alg : C FF (n + 1) 4 [.tup [.str x, a]] st = .ok (.str x) st := by kernel_rfl
theorem alh : C FF (n + 1) 4 [.tup [.str x, a, b]] st = .ok (.str x) st := by kernel_rfl
theorem ali : C FF (n + 1) 4 [.tup [.str x, a, b, c]] st = .ok (.str x) st := by kernel_rfl
theorem jf (h : r.length ≤ 3) : C FF (n + 1) 4 [.tup (.str x :: r)] st = .ok (.str x) st := by
 match r, h with
 | [], _ => exact alf
 | [a], _ => exact alg
 | [a, b], _ => exact alh
 | [a, b, c], _ => exact ali
 | a :: b :: c :: d :: e, h => simp at h
abbrev LEN : List (Str × D) := [(Str.ofString "number", .int 2), (Str.ofString "unknown", .int 2), (Str.ofString "weigh", .int 3), (Str.ofString "plus", .int 2), (Str.ofString "call", .int 3), (Str.ofString "read", .int 3), (Str.ofString "put", .int 4)]
abbrev DED : List (Str × Nat) := [(Str.ofString "number", 7), (Str.ofString "unknown", 8), (Str.ofString "weigh", 9), (Str.ofString "plus", 10), (Str.ofString "call", 11), (Str.ofString "read", 12), (Str.ofString "put", 13)]
abbrev WRD : List Str := [Str.ofString "number", Str.ofString "unknown", Str.ofString "weigh", Str.ofString "plus", Str.ofString "call", Str.ofString "read", Str.ofString "put"]
theorem jx {a b : Nat} (h : a = b) : (!decide ((a : Int) = (b : Int))) = false := by subst h; simp
theorem alj (h3 : r.length ≤ 3) (h : room < 1 ∨ decide (x ∈ WRD) = false ∨ ∃ v : Int, LEN.lookup x = some (.int v) ∧ decide ((r.length + 1 : Nat) = v) = false) : Xr 2 (Ex st) (C FF (n + 2) 5 [.loc nl, .tup (.str x :: r), .int room] st) := by
 refine Dk [some (.loc nl), some (.tup (.str x :: r)), some (.int room), none, none] (b := Gs) rfl rfl (by decide) rfl ?_
 unfold Gs
 refine Ee (Ba (Bb (Aa (w_var rfl (af (Df (jf h3) ⟨odt rfl, _, rfl, bu (Ga (Cq (As (w_var rfl (Ad (Et ⟨_, rfl, ?_⟩))))))⟩))))))
 refine ⟨fun _ => cq (dq (.refl _)), fun hr => Cq (Iy (w_var rfl ⟨x, rfl, ?_⟩))⟩
 have hr := of_decide_eq_false hr
 cases hin : decide (x ∈ WRD) with
 | false => exact cq (cq (dq (.refl _)))
 | true =>
  refine Bg (As (Cj (Aa (w_var rfl (af (Fs ?_))))))
  rcases h with h | h | ⟨v, hv, h⟩
  · exact absurd h hr
  · rw [hin] at h; cases h
  · refine iy (w_var rfl ⟨x, _, rfl, hv, Hk ⟨_, rfl, ?_⟩⟩)
    rw [show decide (((D.str x :: r).length : Int) = v) = false from h]
    exact cq (dq (.refl _))
theorem Fe (hin : decide (x ∈ WRD) = true) (hv : LEN.lookup x = some (.int (l + 1 : Nat))) (hf : DED.lookup x = some i) (hl : r.length = l) (h3 : r.length ≤ 3) (hc : ([7, 8, 9, 10, 11, 12, 13] : List Nat).contains i = true) (hr : 1 ≤ room)
 (h : Wr (C FF (n + 1) i [.loc nl, .tup (.str x :: r), .int (room - 1)] (st ++ [.fnc i])) Q) : Wr (C FF (n + 2) 5 [.loc nl, .tup (.str x :: r), .int room] st) Q := by
 refine Bi [some (.loc nl), some (.tup (.str x :: r)), some (.int room), none, none] (b := Gs) rfl rfl (by decide) rfl ?_
 unfold Gs
 refine ag (Ba (Bb (Aa (w_var rfl (af (Df (jf h3) ⟨odt rfl, Ag (ag (bb ?_))⟩))))))
 refine Cq (As (w_var rfl (Ad (Et ⟨_, rfl, ?_⟩))))
 rw [decide_eq_false (by omega : ¬ room < 1)]
 refine Bg (Cq (Iy (w_var rfl ⟨x, rfl, ?_⟩)))
 rw [show decide (x ∈ [Str.ofString "number", Str.ofString "unknown", Str.ofString "weigh", Str.ofString "plus", Str.ofString "call", Str.ofString "read", Str.ofString "put"]) = true from hin]
 refine Bg (As (Cj (Aa (w_var rfl (af (Fs (iy (w_var rfl ⟨x, _, rfl, hv, Hk ⟨_, rfl, ?_⟩⟩))))))))
 rw [jx (by simp [hl])]
 refine Bg (aj (Ag (ag (Ba (Sq (w_var rfl ⟨x, i, rfl, hf, odt rfl, Ag (ag (bf (acx (w_var rfl ⟨_, i, rfl, by simp, hc, ?_⟩))))⟩))))))
 refine Aa (w_var rfl (Aa (w_var rfl (Aa (Aj (w_var rfl (Ad (Dg (af ?_)))))))))
 exact h.imp fun d s q => q
theorem alm (hin : decide (x ∈ WRD) = true) (hv : LEN.lookup x = some (.int (l + 1 : Nat))) (hf : DED.lookup x = some i) (hl : r.length = l) (h3 : r.length ≤ 3) (hc : ([7, 8, 9, 10, 11, 12, 13] : List Nat).contains i = true)
 (h : 1 ≤ room → Xr 2 (Ex (st ++ [.fnc i])) (C FF (n + 1) i [.loc nl, .tup (.str x :: r), .int (room - 1)] (st ++ [.fnc i]))) : Xr 2 (Ex st) (C FF (n + 2) 5 [.loc nl, .tup (.str x :: r), .int room] st) := by
 by_cases hr : room < 1
 · exact alj h3 (.inl hr)
 refine Dk [some (.loc nl), some (.tup (.str x :: r)), some (.int room), none, none] (b := Gs) rfl rfl (by decide) rfl ?_
 unfold Gs
 refine Ee (Ba (Bb (Aa (w_var rfl (af (Df (jf h3) ⟨odt rfl, _, rfl, Ee (bb ?_)⟩))))))
 refine Cq (As (w_var rfl (Ad (Et ⟨_, rfl, ?_⟩))))
 rw [decide_eq_false hr]
 refine Bg (Cq (Iy (w_var rfl ⟨x, rfl, ?_⟩)))
 rw [show decide (x ∈ [Str.ofString "number", Str.ofString "unknown", Str.ofString "weigh", Str.ofString "plus", Str.ofString "call", Str.ofString "read", Str.ofString "put"]) = true from hin]
 refine Bg (As (Cj (Aa (w_var rfl (af (Fs (iy (w_var rfl ⟨x, _, rfl, hv, Hk ⟨_, rfl, ?_⟩⟩))))))))
 rw [jx (by simp [hl])]
 refine Bg (aj ⟨_, rfl, Ee (Ba (Sq (w_var rfl ⟨x, i, rfl, hf, odt rfl, _, rfl, bu (ala (alb (w_var rfl ⟨_, i, rfl, by simp, hc, ?_⟩)))⟩)))⟩)
 refine Aa (w_var rfl (Aa (w_var rfl (Aa (Aj (w_var rfl (Ad (Dg (af ?_)))))))))
 exact (h (by omega)).imp fun s e => Ex.one.trans e
end
section
variable {FF n nl : Nat} {st : Sto}
theorem ux {a b : Int} (h : 0 ≤ b) : a.fmod b = a % b := Int.fmod_eq_emod_of_nonneg a h
theorem fm0 {a b : Int} (h : 0 < b) : 0 ≤ a.fmod b := by rw [ux (by omega)]; exact Int.emod_nonneg _ (by omega)
theorem fm1 {a b : Int} (h : 0 < b) : a.fmod b < b := by rw [ux (by omega)]; exact Int.emod_lt_of_pos _ h
theorem whole : C FF (n + 1) 1 [.int i] st = .ok (.bl true) st := by kernel_rfl
def oq (p q : Int) : Prop := (q = 1 ∧ (p = 0 ∨ p = 1 ∨ p = 2 ∨ p = 3 ∨ p = 4 ∨ p = -3 ∨ p = -1)) ∨ (p = 1 ∧ q = 2) ∨ (p = 7 ∧ q = 3) ∨ (p = 1 ∧ q = 3)
theorem Ux (h : oq p q) : C (FF + 5) (n + 2) 2 [.tup [.int p, .int q]] st = .ok (.bl true) st := by
 rcases h with ⟨rfl, rfl | rfl | rfl | rfl | rfl | rfl | rfl⟩ | ⟨rfl, rfl⟩ | ⟨rfl, rfl⟩ | ⟨rfl, rfl⟩ <;> kernel_rfl
theorem uy (g : st[m]? = some (.dct kvs)) (hk : Dq k = true) (h : Q ((bx kvs k).getD .non) st) : Wr (mtD .get (.loc m) [k] st) Q := ⟨_, _, by simp only [mtD, Cw, g]; rw [if_pos hk], h⟩
theorem Uy (H : Has nl st) : Wr (C FF (n + 1) 40 [.loc nl, .str x] st) fun d s => d = (bx UNK (.str x)).getD .non ∧ s = st := by
 refine Bi [some (.loc nl), some (.str x)] (b := La) rfl rfl (by decide) rfl ?_
 unfold La
 refine ag (bf (Si (Gk (w_var rfl ⟨.b "str", true, rfl, rfl, cq ?_⟩))))
 refine Fq (w_fld (w_var rfl ⟨nl, (FLD nl), .loc (nl + 37), rfl, H.i, akm, So H.u, Aa (w_var rfl (af ?_))⟩))
 exact uy H.u rfl ⟨rfl, rfl⟩
theorem aln (H : Has nl st) : Wr (C FF (n + 1) 42 [.loc nl, .str x] st) fun d s => d = (bx DEE (.str x)).getD .non ∧ s = st := by
 refine Bi [some (.loc nl), some (.str x)] (b := lb) rfl rfl (by decide) rfl ?_
 unfold lb
 refine ag (bf (Si (Gk (w_var rfl ⟨.b "str", true, rfl, rfl, cq ?_⟩))))
 refine Fq (w_fld (w_var rfl ⟨nl, (FLD nl), .loc (nl + 34), rfl, H.i, akn, So H.d, Aa (w_var rfl (af ?_))⟩))
 exact uy H.d rfl ⟨rfl, rfl⟩
end
section
variable {FF n nl : Nat} {st : Sto}
inductive Kd | num | cb | array
def kd : Kd → D | .num => W "num" | .cb => W "thing" | .array => W "array"
theorem Jf (b : Kd) : okN 40 (kd b) = true := by cases b <;> decide +kernel
theorem alo (h : a ≠ b) : decide (kd a = kd b) = false := by cases a <;> cases b <;> first | exact absurd rfl h | decide +kernel
abbrev Kw (nl FF n : Nat) (b : Kd) (t : D) (room : Int) : Prop := ∀ st, Has nl st → Wr (C FF n 5 [.loc nl, t, .int room] st) fun d s => d = kd b ∧ Ex st s
theorem alp {ts ks : List D} {room : Int} (hl : ts.length = ks.length) (hok : ∀ k ∈ ks, okN 40 k = true) (h : ∀ (i : Nat) (t k : D), ts[i]? = some t → ks[i]? = some k → ∀ s, Has nl s → Wr (C FF n 5 [.loc nl, t, .int room] s) fun d s' => d = k ∧ Ex s s') (H : Has nl st) :
 Wr (C FF (n + 1) 6 [.loc nl, .tup ts, .tup ks, .int room] st) fun d s => d = .non ∧ Ex st s := by
 refine Bi [some (.loc nl), some (.tup ts), some (.tup ks), some (.int room), none, none] (b := Ku) rfl rfl (by decide) rfl ?_
 unfold Ku
 refine ag (bb (Cq (er (Gk (w_var rfl ⟨.b "tuple", true, rfl, rfl, Bg ?_⟩)))))
 refine As (Cj (Aa (w_var rfl (af (Fs (Cj (Aa (w_var rfl (af (Fs (Hk ⟨_, rfl, ?_⟩)))))))))))
 rw [jx hl]
 refine Bg (aj (Ag (ag ?_)))
 refine acy (Aa (w_var rfl (Aa (w_var rfl (af ⟨ts, ks, rfl, Nat.le_of_eq hl, ?_⟩)))))
 refine w_walk (fun i env s => (∃ a b, env = [some (.loc nl), some (.tup ts), some (.tup ks), some (.int room), a, b]) ∧ Has nl s ∧ Ex st s) (fun _ _ _ _ => rfl) _ 0 _ _ ⟨⟨_, _, rfl⟩, H, .refl _⟩ (fun j d hd env s hj => ?_) (fun env s hj => ?_)
 · obtain ⟨⟨a, b, rfl⟩, H1, E1⟩ := hj
   simp only [He, List.getElem?_zipWith] at hd
   cases ht : ts[j]? with
   | none => rw [ht] at hd; simp at hd
   | some t =>
    cases hk : ks[j]? with
    | none => rw [ht, hk] at hd; simp at hd
    | some k =>
     rw [ht, hk] at hd
     simp at hd
     subst hd
     refine acz (env' := [some (.loc nl), some (.tup ts), some (.tup ks), some (.int room), some t, some k]) rfl ?_
     refine ag (bb (As (Bb (Aa (w_var rfl (Aa (w_var rfl (Aa (w_var rfl (af ?_))))))))))
     refine (h j t k ht hk s H1).imp ?_
     rintro d s2 ⟨rfl, E2⟩
     refine w_var rfl (jq (hok _ (List.mem_of_getElem? hk)) (hok _ (List.mem_of_getElem? hk)) ⟨_, rfl, ?_⟩)
     rw [decide_eq_true rfl]
     exact Bg (aj (Ag (aj ⟨_, rfl, ⟨_, _, rfl⟩, H1.ex E2, E1.trans E2⟩)))
 · obtain ⟨⟨a, b, rfl⟩, H1, E1⟩ := hj
   exact Ag (aj ⟨rfl, E1⟩)
end
section
variable {FF n nl : Nat} {st : Sto}
inductive Al (nl FF n : Nat) (room : Int) : List D → List Kd → Prop
 | nil : Al nl FF n room [] []
 | cons {t : D} {k : Kd} {ts : List D} {ks : List Kd} : Kw nl FF n k t room → Al nl FF n room ts ks → Al nl FF n room (t :: ts) (k :: ks)
theorem Al.len (h : Al nl FF n room ts ks) : ts.length = ks.length := by induction h <;> simp_all
theorem Al.get (h : Al nl FF n room ts ks) : ∀ (i : Nat) (t k : D), ts[i]? = some t → (ks.map kd)[i]? = some k → ∀ s, Has nl s → Wr (C FF n 5 [.loc nl, t, .int room] s) fun d s' => d = k ∧ Ex s s' := by
 induction h with
 | nil => intro i t k h; simp at h
 | cons h _ ih =>
  intro i t k h1 h2
  cases i with
  | zero => simp at h1 h2; subst h1 h2; exact h
  | succ i => exact ih i t k (by simpa using h1) (by simpa using h2)
theorem cks (h : Al nl FF n room ts ks) (H : Has nl st) : Wr (C FF (n + 1) 6 [.loc nl, .tup ts, .tup (ks.map kd), .int room] st) fun d s => d = .non ∧ Ex st s :=
 alp (by rw [List.length_map]; exact h.len) (fun k hk => by obtain ⟨a, _, rfl⟩ := List.mem_map.mp hk; exact Jf a) h.get H
theorem alq (hf : ∀ s, C FF n 2 [f] s = .ok (.bl true) s) : Wr (C FF (n + 1) 7 [.loc nl, .tup [W "number", f], .int room] st) fun d s => d = kd .num ∧ Ex st s := by
 refine Bi [some (.loc nl), some (.tup [W "number", f]), some (.int room)] (b := Kv) rfl rfl (by decide) rfl ?_
 unfold Kv
 refine ag (bb (er (sj (Aa (Ax (w_var rfl (Ad (Ca (d := f) rfl (af (Df (hf st) ⟨true, rfl, Bg ?_⟩))))))))))
 exact aj (Ag (ag (bf (Ad ⟨rfl, .refl _⟩))))
theorem alr (H : Has nl st) (h : bx UNK (.str x) = some (kd b)) : Wr (C FF (n + 2) 8 [.loc nl, .tup [W "unknown", .str x], .int room] st) fun d s => d = kd b ∧ Ex st s := by
 refine Bi [some (.loc nl), some (.tup [W "unknown", .str x]), some (.int room), none] (b := iz) rfl rfl (by decide) rfl ?_
 unfold iz
 refine ag (Ba (Ep (w_var rfl ⟨nl, (FLD nl), rfl, H.i, Uv, Aa (Ax (w_var rfl (Ad (Ca (d := .str x) rfl (af ((Uy H).imp ?_))))))⟩)))
 rintro d s ⟨rfl, rfl⟩
 rw [h]
 refine ⟨odt rfl, Ag (ag (bb (As (w_var rfl (Ad (nj ⟨_, rfl, ?_⟩))))))⟩
 have hn : decide (((some (kd b)).getD .non) = .non) = false := by cases b <;> decide +kernel
 rw [hn]
 exact Bg (aj (Ag (ag (bf (w_var rfl ⟨rfl, .refl _⟩)))))
theorem als (H : Has nl st) (h : Wr (C FF (n + 1) 40 [.loc nl, y] st) fun d s => d = .non ∧ s = st) : Xr 2 (Ex st) (C FF (n + 2) 8 [.loc nl, .tup [W "unknown", y], .int room] st) := by
 refine Dk [some (.loc nl), some (.tup [W "unknown", y]), some (.int room), none] (b := iz) rfl rfl (by decide) rfl ?_
 unfold iz
 refine Ee (Ba (Ep (w_var rfl ⟨nl, (FLD nl), rfl, H.i, Uv, Aa (Ax (w_var rfl (Ad (Ca (d := y) rfl (af (h.imp ?_))))))⟩)))
 rintro d s ⟨rfl, rfl⟩
 exact ⟨odt rfl, _, rfl, bu (Ga (As (w_var rfl (Ad (nj ⟨_, rfl, cq (dq (.refl _))⟩)))))⟩
theorem alu (H : Has nl st) (hf : ∀ s, C FF (n + 1) 2 [f] s = .ok (.bl true) s) (ht : Kw nl FF n .num t room) : Wr (C FF (n + 2) 9 [.loc nl, .tup [W "weigh", f, t], .int room] st) fun d s => d = kd .num ∧ Ex st s := by
 refine Bi [some (.loc nl), some (.tup [W "weigh", f, t]), some (.int room)] (b := Kx) rfl rfl (by decide) rfl ?_
 unfold Kx
 refine ag (bb (er (sj (Aa (Ax (w_var rfl (Ad (Ca (d := f) rfl (af (Df (hf st) ⟨true, rfl, Bg ?_⟩))))))))))
 refine aj (Ag (ag (Bz (Bb (Aa (w_var rfl (Aa (Hj (w_var rfl (Hi (Ad ⟨2, rfl, Hh (nk rfl (Aa (az (Aa (Ad (af ⟨odt rfl, Aa (w_var rfl (af ?_))⟩))))))⟩)))))))))))
 refine (cks (ts := [t]) (ks := [.num]) (.cons ht .nil) H).imp ?_
 rintro d s ⟨rfl, E⟩
 exact Ag (ag (bf (Ad ⟨rfl, E⟩)))
theorem alv {m : Nat} (h : m ≤ 3) : opD .mul (.tup [W "num"]) (.int m) st = .ok (.tup ((List.replicate m Kd.num).map kd)) st := by
 match m, h with
 | 0, _ => kernel_rfl
 | 1, _ => kernel_rfl
 | 2, _ => kernel_rfl
 | 3, _ => kernel_rfl
theorem alw {ts : List D} {room : Int} (H : Has nl st) (hl : ts.length ≤ 3) (h : Al nl FF n room ts (List.replicate ts.length .num)) : Wr (C FF (n + 2) 10 [.loc nl, .tup [W "plus", .tup ts], .int room] st) fun d s => d = kd .num ∧ Ex st s := by
 refine Bi [some (.loc nl), some (.tup [W "plus", .tup ts]), some (.int room)] (b := ky) rfl rfl (by decide) rfl ?_
 unfold ky
 refine ag (bb (er (Gk (Ax (w_var rfl (Ad (Ca (d := .tup ts) rfl ⟨.b "tuple", true, rfl, rfl, Bg ?_⟩)))))))
 refine aj (Ag (ag (Bz (Bb (Aa (w_var rfl (Aa (Ax (w_var rfl (Ad (Ca (d := .tup ts) rfl ?_)))))))))))
 refine Aa (Aj (az (Aa (Ad (af ⟨odt rfl, Cj (Aa (Ax (w_var rfl (Ad (Ca (d := .tup ts) rfl (af (Fs (Df (alv hl) (Aa (w_var rfl (af ?_)))))))))))⟩)))))
 refine (cks h H).imp ?_
 rintro d s ⟨rfl, E⟩
 exact Ag (ag (bf (Ad ⟨rfl, E⟩)))
theorem Ls (H : Has nl st) (hx : bx DEE (.str x) = some (.tup [.tup (ks.map kd), kd k])) (h : Al nl FF n room ts ks) : Wr (C FF (n + 2) 11 [.loc nl, .tup [W "call", .str x, .tup ts], .int room] st) fun d s => d = kd k ∧ Ex st s := by
 refine Bi [some (.loc nl), some (.tup [W "call", .str x, .tup ts]), some (.int room), none, none, none] (b := Ky) rfl rfl (by decide) rfl ?_
 unfold Ky
 refine ag (Ba (Ep (w_var rfl ⟨nl, (FLD nl), rfl, H.i, ako, Aa (Ax (w_var rfl (Ad (Ca (d := .str x) rfl (af ((aln H).imp ?_))))))⟩)))
 rintro d s ⟨rfl, rfl⟩
 rw [hx]
 refine ⟨odt rfl, Ag (ag (bb (As (w_var rfl (Ad (nj ⟨_, rfl, Bg (aj (Ag (ag ?_)))⟩))))))⟩
 refine acm (w_var rfl ⟨_, rfl, Ag (ag (Bz (Bb (Aa (w_var rfl (Aa (Ax (w_var rfl (Ad (Ca (d := .tup ts) rfl (Aa (w_var rfl (Aa (w_var rfl (af ?_)))))))))))))))⟩)
 refine (cks h H).imp ?_
 rintro d s ⟨rfl, E⟩
 exact Ag (ag (bf (w_var rfl ⟨rfl, E⟩)))
theorem alx (H : Has nl st) (h : Al nl FF n room [a, t] [.array, .num]) : Wr (C FF (n + 2) 12 [.loc nl, .tup [W "read", a, t], .int room] st) fun d s => d = kd .num ∧ Ex st s := by
 refine Bi [some (.loc nl), some (.tup [W "read", a, t]), some (.int room)] (b := kz) rfl rfl (by decide) rfl ?_
 unfold kz
 refine ag (Bz (Bb (Aa (w_var rfl (Aa (Hj (w_var rfl (Hi (Ad ⟨1, rfl, Hh (nk rfl (Aa (az (Aa (Ad (Aa (Ad (af ⟨odt rfl, Aa (w_var rfl (af ?_))⟩))))))))⟩)))))))))
 refine (cks h H).imp ?_
 rintro d s ⟨rfl, E⟩
 exact Ag (ag (bf (Ad ⟨rfl, E⟩)))
theorem aly (H : Has nl st) (h : Al nl FF n room [a, t, u] [.array, .num, .num]) : Wr (C FF (n + 2) 13 [.loc nl, .tup [W "put", a, t, u], .int room] st) fun d s => d = kd .array ∧ Ex st s := by
 refine Bi [some (.loc nl), some (.tup [W "put", a, t, u]), some (.int room)] (b := Kz) rfl rfl (by decide) rfl ?_
 unfold Kz
 refine ag (Bz (Bb (Aa (w_var rfl (Aa (Hj (w_var rfl (Hi (Ad ⟨1, rfl, Hh (nk rfl (Aa (az (Aa (Ad (Aa (Ad (Aa (Ad (af ⟨odt rfl, Aa (w_var rfl (af ?_))⟩))))))))))⟩)))))))))
 refine (cks h H).imp ?_
 rintro d s ⟨rfl, E⟩
 exact Ag (ag (bf (Ad ⟨rfl, E⟩)))
end
section
variable {FF n nl : Nat} {st : Sto}
inductive Tr : Kd → Nat → D → Prop
 | unk {d : Nat} {k : Kd} {x : Str} : bx UNK (.str x) = some (kd k) → okN 1 (.str x) = true → Tr k (d + 1) (.tup [W "unknown", .str x])
 | num {d : Nat} {p q : Int} : oq p q → Tr .num (d + 1) (.tup [W "number", .tup [.int p, .int q]])
 | wei {d : Nat} {p q : Int} {t : D} : oq p q → Tr .num d t → Tr .num (d + 1) (.tup [W "weigh", .tup [.int p, .int q], t])
 | plu {d : Nat} {t u : D} : Tr .num d t → Tr .num d u → Tr .num (d + 1) (.tup [W "plus", .tup [t, u]])
 | calf {d : Nat} {t : D} : Tr .num d t → Tr .num (d + 1) (.tup [W "call", W "f", .tup [t]])
 | calg {d : Nat} {t : D} : Tr .cb d t → Tr .cb (d + 1) (.tup [W "call", W "g", .tup [t]])
 | calh {d : Nat} {t u : D} : Tr .cb d t → Tr .num d u → Tr .num (d + 1) (.tup [W "call", W "h", .tup [t, u]])
 | calk {d : Nat} {t u : D} : Tr .num d t → Tr .num d u → Tr .num (d + 1) (.tup [W "call", W "k", .tup [t, u]])
 | rea {d : Nat} {a t : D} : Tr .array d a → Tr .num d t → Tr .num (d + 1) (.tup [W "read", a, t])
 | put {d : Nat} {a t u : D} : Tr .array d a → Tr .num d t → Tr .num d u → Tr .array (d + 1) (.tup [W "put", a, t, u])
theorem alz : bx DEE (W "f") = some (.tup [.tup ([Kd.num].map kd), kd .num]) := by decide +kernel
theorem ama : bx DEE (W "g") = some (.tup [.tup ([Kd.cb].map kd), kd .cb]) := by decide +kernel
theorem amb : bx DEE (W "h") = some (.tup [.tup ([Kd.cb, .num].map kd), kd .num]) := by decide +kernel
theorem amc : bx DEE (W "k") = some (.tup [.tup ([Kd.num, .num].map kd), kd .num]) := by decide +kernel
theorem kw : ∀ (k : Nat) (b : Kd) (t : D), Tr b k t → ∀ room : Int, (k : Int) ≤ room → Kw nl (FF + 5) (n + 3 * k + 3) b t room
 | 0, b, t, h, room, hr, st, H => by cases h
 | k + 1, b, t, h, room, hr, st, H => by
  have ih := fun b t h => kw k b t h (room - 1) (by omega)
  have H2 : ∀ {i : Nat}, Has nl (st ++ [.fnc i]) := fun {i} => H.ex .one
  have up : ∀ {i : Nat} {b : Kd} {r : Res D}, Wr r (fun d s => d = kd b ∧ Ex (st ++ [.fnc i]) s) → Wr r fun d s => d = kd b ∧ Ex st s := fun h => h.imp fun d s q => ⟨q.1, Ex.one.trans q.2⟩
  rw [show n + 3 * (k + 1) + 3 = (n + 3 * k + 4) + 2 by omega]
  cases h with
  | unk hx => exact Fe (l := 1) (i := 8) (by kernel_rfl) (by kernel_rfl) (by kernel_rfl) rfl (odt rfl) rfl (by omega) (up (alr H2 hx))
  | num hf => exact Fe (l := 1) (i := 7) (by kernel_rfl) (by kernel_rfl) (by kernel_rfl) rfl (odt rfl) rfl (by omega) (up (alq (fun s => Ux (n := n + 3 * k + 2) hf)))
  | wei hf ht => exact Fe (l := 2) (i := 9) (by kernel_rfl) (by kernel_rfl) (by kernel_rfl) rfl (odt rfl) rfl (by omega) (up (alu H2 (fun s => Ux (n := n + 3 * k + 2) hf) (ih _ _ ht)))
  | plu ht hu => exact Fe (l := 1) (i := 10) (by kernel_rfl) (by kernel_rfl) (by kernel_rfl) rfl (odt rfl) rfl (by omega) (up (alw (ts := [_, _]) H2 (odt rfl) (.cons (ih _ _ ht) (.cons (ih _ _ hu) .nil))))
  | calf ht => exact Fe (l := 2) (i := 11) (by kernel_rfl) (by kernel_rfl) (by kernel_rfl) rfl (odt rfl) rfl (by omega) (up (Ls H2 alz (.cons (ih _ _ ht) .nil)))
  | calg ht => exact Fe (l := 2) (i := 11) (by kernel_rfl) (by kernel_rfl) (by kernel_rfl) rfl (odt rfl) rfl (by omega) (up (Ls H2 ama (.cons (ih _ _ ht) .nil)))
  | calh ht hu => exact Fe (l := 2) (i := 11) (by kernel_rfl) (by kernel_rfl) (by kernel_rfl) rfl (odt rfl) rfl (by omega) (up (Ls H2 amb (.cons (ih _ _ ht) (.cons (ih _ _ hu) .nil))))
  | calk ht hu => exact Fe (l := 2) (i := 11) (by kernel_rfl) (by kernel_rfl) (by kernel_rfl) rfl (odt rfl) rfl (by omega) (up (Ls H2 amc (.cons (ih _ _ ht) (.cons (ih _ _ hu) .nil))))
  | rea ha ht => exact Fe (l := 2) (i := 12) (by kernel_rfl) (by kernel_rfl) (by kernel_rfl) rfl (odt rfl) rfl (by omega) (up (alx H2 (.cons (ih _ _ ha) (.cons (ih _ _ ht) .nil))))
  | put ha ht hu => exact Fe (l := 3) (i := 13) (by kernel_rfl) (by kernel_rfl) (by kernel_rfl) rfl (odt rfl) rfl (by omega) (up (aly H2 (.cons (ih _ _ ha) (.cons (ih _ _ ht) (.cons (ih _ _ hu) .nil)))))
theorem kwN (h : Tr b k t) (hm : 3 * k + 3 ≤ m) (hr : (k : Int) ≤ room) : Kw nl (FF + 5) m b t room := by
 have := kw (nl := nl) (FF := FF) (n := m - (3 * k + 3)) k b t h room hr
 rwa [show m - (3 * k + 3) + 3 * k + 3 = m by omega] at this
theorem ok1 (h : okN 1 (.str x) = true) : okN n (.str x) = true := by cases n <;> exact h
theorem okT (h : ∀ d ∈ ds, okN n d = true) : okN (n + 1) (.tup ds) = true := List.all_eq_true.mpr h
theorem oki : okN n (.int i) = true := by cases n <;> rfl
theorem okW (h : okN 1 (W x) = true) : okN n (W x) = true := ok1 h
theorem dh : ∀ {n m : Nat} {d : D}, okN n d = true → n ≤ m → okN m d = true
 | n, m, .int _, _, _ => oki
 | n, m, .str _, h, _ => by cases n <;> cases m <;> exact h
 | 0, _, .tup _, h, _ => by cases h
 | n + 1, 0, .tup _, _, hm => by omega
 | n + 1, m + 1, .tup ds, h, hm => okT fun d hd => dh (List.all_eq_true.mp h d hd) (by omega)
 | n, m, .non, h, _ => by cases n <;> cases h
 | n, m, .bl _, h, _ => by cases n <;> cases h
 | n, m, .loc _, h, _ => by cases n <;> cases h
theorem uz (h : okN n a = true) : okN (n + 1) (.tup [a]) = true := okT fun d hd => by simp at hd; rw [hd]; exact h
theorem eg (h : okN n a = true) (g : okN n b = true) : okN (n + 1) (.tup [a, b]) = true := okT fun d hd => by
 simp at hd
 rcases hd with rfl | rfl
 · exact h
 · exact g
theorem Gx (h : okN n a = true) (g : okN n b = true) (k : okN n c = true) : okN (n + 1) (.tup [a, b, c]) = true := okT fun d hd => by
 simp at hd
 rcases hd with rfl | rfl | rfl
 · exact h
 · exact g
 · exact k
theorem amd (h : okN n a = true) (g : okN n b = true) (k : okN n c = true) (l : okN n e = true) : okN (n + 1) (.tup [a, b, c, e]) = true := okT fun d hd => by
 simp at hd
 rcases hd with rfl | rfl | rfl | rfl
 · exact h
 · exact g
 · exact k
 · exact l
theorem lu (h : Tr b k t) : okN (2 * k) t = true := by
 induction h with
 | unk _ hx => exact eg (okW (by kernel_rfl)) (ok1 hx)
 | num _ => exact eg (okW (by kernel_rfl)) (eg oki oki)
 | wei _ _ i => exact Gx (okW (by kernel_rfl)) (eg oki oki) (dh i (Nat.le_succ _))
 | plu _ _ i j => exact eg (okW (by kernel_rfl)) (eg i j)
 | calf _ i => exact Gx (okW (by kernel_rfl)) (okW (by kernel_rfl)) (uz i)
 | calg _ i => exact Gx (okW (by kernel_rfl)) (okW (by kernel_rfl)) (uz i)
 | calh _ _ i j => exact Gx (okW (by kernel_rfl)) (okW (by kernel_rfl)) (eg i j)
 | calk _ _ i j => exact Gx (okW (by kernel_rfl)) (okW (by kernel_rfl)) (eg i j)
 | rea _ _ i j => exact Gx (okW (by kernel_rfl)) (dh i (Nat.le_succ _)) (dh j (Nat.le_succ _))
 | put _ _ _ i j k => exact amd (okW (by kernel_rfl)) (dh i (Nat.le_succ _)) (dh j (Nat.le_succ _)) (dh k (Nat.le_succ _))
end
section
variable {FF n nl : Nat} {st : Sto}
abbrev SLE : List (Str × D) := [(Str.ofString "atmost", .int 3), (Str.ofString "below", .int 3), (Str.ofString "same", .int 3), (Str.ofString "not", .int 2), (Str.ofString "and", .int 2), (Str.ofString "or", .int 2)]
abbrev SWO : List Str := [Str.ofString "atmost", Str.ofString "below", Str.ofString "same", Str.ofString "not", Str.ofString "and", Str.ofString "or"]
theorem Uz (ht : Kw nl FF n b t room) (hu : Kw nl FF n b u room) (hw : okN 1 (.str w) = true) (hk : b = .num ∨ (b = .cb ∧ w = Str.ofString "same")) (H : Has nl st) : Wr (C FF (n + 1) 17 [.loc nl, .tup [.str w, t, u], .int room] st) fun d s => d = .non ∧ Ex st s := by
 refine Bi [some (.loc nl), some (.tup [.str w, t, u]), some (.int room), none] (b := gv) rfl rfl (by decide) rfl ?_
 unfold gv
 refine ag (Ba (Bb (Aa (w_var rfl (Aa (Ax (w_var rfl (Ad (Ca (d := t) rfl (Aa (w_var rfl (af ((ht st H).imp ?_)))))))))))))
 rintro d s1 ⟨rfl, E1⟩
 refine ⟨odt rfl, Ag (ag (bb (As (Bb (Aa (w_var rfl (Aa (Ax (w_var rfl (Ad (Ca (d := u) rfl (Aa (w_var rfl (af ((hu s1 (H.ex E1)).imp ?_)))))))))))))))⟩
 rintro d s2 ⟨rfl, E2⟩
 refine w_var rfl (jq (Jf _) (Jf _) ⟨_, rfl, ?_⟩)
 rw [decide_eq_true rfl]
 refine Bg (aj (Ag (ag (bb (Jp (As (w_var rfl (Ad (jq (Jf _) (okW (by kernel_rfl)) ⟨_, rfl, ?_⟩)))))))))
 rcases hk with rfl | ⟨rfl, rfl⟩
 · rw [show decide (kd .num = .str (Str.ofString "num")) = true by decide +kernel]
   exact Bg (Bg (aj (Ag (aj ⟨rfl, E1.trans E2⟩))))
 · rw [show decide (kd .cb = .str (Str.ofString "num")) = false by decide +kernel]
   refine cq (As (az (Aa (w_var rfl (Aa (Ax (w_var rfl (Ad (Ca (d := W "same") rfl (af ⟨odt rfl, ?_⟩))))))))))
   refine az (Aa (Ad (Aa (Ad (af ⟨odt rfl, ?_⟩)))))
   refine jq (by decide +kernel) (by decide +kernel) ⟨_, rfl, ?_⟩
   rw [show decide (D.tup [kd .cb, W "same"] = D.tup [.str (Str.ofString "thing"), .str (Str.ofString "same")]) = true by decide +kernel]
   exact Bg (aj (Ag (aj ⟨rfl, E1.trans E2⟩)))
theorem cw_pre (hin : decide (w ∈ SWO) = true) (hv : SLE.lookup w = some (.int (l + 1 : Nat))) (hl : r.length = l) (h3 : r.length ≤ 3) (hr : 1 ≤ room) (hw : okN 1 (.str w) = true)
 (hn : w = Str.ofString "not" → Wr (Ab tab (C FF (n + 1)) (.call 15 (.cons (.var 0) (.cons (.ix (.var 1) (.cst (.int 1))) (.cons (.op .sub (.var 2) (.cst (.int 1))) .nil))) []) [some (.loc nl), some (.tup (.str w :: r)), some (.int room), some (.str w)] st) fun _ s => Q .non s)
 (hp : w = Str.ofString "and" ∨ w = Str.ofString "or" → Wr (Ab tab (C FF (n + 1)) (.call 16 (.cons (.var 0) (.cons (.ix (.var 1) (.cst (.int 1))) (.cons (.op .sub (.var 2) (.cst (.int 1))) .nil))) []) [some (.loc nl), some (.tup (.str w :: r)), some (.int room), some (.str w)] st) fun _ s => Q .non s)
 (ha : w ≠ Str.ofString "not" → w ≠ Str.ofString "and" → w ≠ Str.ofString "or" → Wr (Ab tab (C FF (n + 1)) (.call 17 (.cons (.var 0) (.cons (.var 1) (.cons (.op .sub (.var 2) (.cst (.int 1))) .nil))) []) [some (.loc nl), some (.tup (.str w :: r)), some (.int room), some (.str w)] st) fun _ s => Q .non s) :
 Wr (C FF (n + 2) 15 [.loc nl, .tup (.str w :: r), .int room] st) Q := by
 refine Bi [some (.loc nl), some (.tup (.str w :: r)), some (.int room), none] (b := fc) rfl rfl (by decide) rfl ?_
 unfold fc
 refine ag (Ba (Bb (Aa (w_var rfl (af (Df (jf h3) ⟨odt rfl, Ag (ag (bb ?_))⟩))))))
 refine Cq (As (w_var rfl (Ad (Et ⟨_, rfl, ?_⟩))))
 rw [decide_eq_false (by omega : ¬ room < 1)]
 refine Bg (Cq (Iy (w_var rfl ⟨w, rfl, ?_⟩)))
 rw [show decide (w ∈ [Str.ofString "atmost", Str.ofString "below", Str.ofString "same", Str.ofString "not", Str.ofString "and", Str.ofString "or"]) = true from hin]
 refine Bg (As (Cj (Aa (w_var rfl (af (Fs (iy (w_var rfl ⟨w, _, rfl, hv, Hk ⟨_, rfl, ?_⟩⟩))))))))
 rw [jx (by simp [hl])]
 refine Bg (aj (Ag (ag (bb (As (w_var rfl (Ad (Sl (ok1 hw) (okW (by kernel_rfl)) ⟨_, rfl, ?_, ?_⟩))))))))
 · intro h
   have h := odt h
   injection h with h
   exact ag (Bz ((hn h).imp fun d s q => Ag (aj (Ag (aj q)))))
 · intro h
   have h := of_decide_eq_false h
   have hnn : w ≠ Str.ofString "not" := fun z => h (by rw [z])
   refine ag (bb (As (w_var rfl (az (Aa (Ad (Aa (Ad (af ⟨odt rfl, sm (ok1 hw) (by decide +kernel) ⟨_, rfl, ?_, ?_⟩⟩)))))))))
   · intro g
     have g := odt g
     simp only [List.mem_cons, List.not_mem_nil, or_false, D.str.injEq] at g
     exact ag (Bz ((hp g).imp fun d s q => Ag (aj (Ag (aj (Ag (aj q)))))))
   · intro g
     have g := of_decide_eq_false g
     simp only [List.mem_cons, List.not_mem_nil, or_false, D.str.injEq, not_or] at g
     exact ag (Bz ((ha hnn g.1 g.2).imp fun d s q => Ag (aj (Ag (aj (Ag (aj q)))))))
inductive Sm : Nat → D → Prop
 | cmp {d : Nat} {w : Str} {t u : D} : w ∈ [Str.ofString "atmost", Str.ofString "below", Str.ofString "same"] → Tr .num 3 t → Tr .num 3 u → Sm (d + 1) (.tup [.str w, t, u])
 | alk {d : Nat} {t u : D} : Tr .cb 3 t → Tr .cb 3 u → Sm (d + 1) (.tup [W "same", t, u])
 | no {d : Nat} {s : D} : Sm d s → Sm (d + 1) (.tup [W "not", s])
 | two {d : Nat} {w : Str} {a b : D} : w ∈ [Str.ofString "and", Str.ofString "or"] → Sm d a → Sm d b → Sm (d + 1) (.tup [.str w, .tup [a, b]])
end
section
variable {FF n nl : Nat} {st : Sto}
theorem ame (h : Sm d s) : okN (6 + 2 * d) s = true := by
 induction h with
 | @cmp d w t u hw ht hu =>
  rw [show 6 + 2 * (d + 1) = (6 + 2 * d + 1) + 1 by omega]
  exact Gx (ok1 (by simp at hw; rcases hw with rfl | rfl | rfl <;> decide +kernel)) (dh (lu ht) (by omega)) (dh (lu hu) (by omega))
 | @alk d t u ht hu =>
  rw [show 6 + 2 * (d + 1) = (6 + 2 * d + 1) + 1 by omega]
  exact Gx (okW (by kernel_rfl)) (dh (lu ht) (by omega)) (dh (lu hu) (by omega))
 | @no d s _ i =>
  rw [show 6 + 2 * (d + 1) = (6 + 2 * d + 1) + 1 by omega]
  exact eg (okW (by kernel_rfl)) (dh i (by omega))
 | @two d w a b hw _ _ i j =>
  rw [show 6 + 2 * (d + 1) = (6 + 2 * d + 1) + 1 by omega]
  exact eg (ok1 (by simp at hw; rcases hw with rfl | rfl <;> decide +kernel)) (eg (dh i (by omega)) (dh j (by omega)))
theorem all2 (ha : ∀ st, Has nl st → Wr (C FF n 15 [.loc nl, a, .int room] st) fun d s => d = .non ∧ Ex st s) (hb : ∀ st, Has nl st → Wr (C FF n 15 [.loc nl, b, .int room] st) fun d s => d = .non ∧ Ex st s) (H : Has nl st) :
 Wr (C FF (n + 1) 16 [.loc nl, .tup [a, b], .int room] st) fun d s => d = .non ∧ Ex st s := by
 refine Bi [some (.loc nl), some (.tup [a, b]), some (.int room), none] (b := Gu) rfl rfl (by decide) rfl ?_
 unfold Gu
 refine ag (bb (er (Gk (w_var rfl ⟨.b "tuple", true, rfl, rfl, Kq (aj (Ag (ag (sk (w_var rfl ⟨[a, b], none, rfl, ?_⟩)))))⟩))))
 refine Nh (fun _ env s => (∃ x, env = [some (.loc nl), some (.tup [a, b]), some (.int room), x]) ∧ Has nl s ∧ Ex st s) (fun _ _ _ _ => rfl) ⟨⟨_, rfl⟩, H, .refl _⟩ (fun j d hd env s hj => ?_) fun env s hj => Ag (aj ⟨rfl, hj.2.2⟩)
 obtain ⟨⟨x, rfl⟩, H1, E1⟩ := hj
 refine nh (env' := [some (.loc nl), some (.tup [a, b]), some (.int room), some d]) rfl ?_
 have hd2 : Wr (C FF n 15 [.loc nl, d, .int room] s) fun d s' => d = .non ∧ Ex s s' := by
  rcases j with _ | _ | j
  · simp at hd; subst hd; exact ha s H1
  · simp at hd; subst hd; exact hb s H1
  · simp at hd
 refine ag (Bz (Bb (Aa (w_var rfl (Aa (w_var rfl (Aa (w_var rfl (af (hd2.imp ?_))))))))))
 rintro e s2 ⟨rfl, E2⟩
 exact Ag (aj ⟨_, rfl, ⟨_, rfl⟩, H1.ex E2, E1.trans E2⟩)
theorem cw : ∀ (d : Nat) (s : D), Sm d s → ∀ (m : Nat) (room : Int), 14 + 2 * d ≤ m → (d : Int) + 3 ≤ room → ∀ st, Has nl st → Wr (C (FF + 5) m 15 [.loc nl, s, .int room] st) fun d s => d = .non ∧ Ex st s
 | 0, _, h, _, _, _, _, _, _ => by cases h
 | d + 1, _, h, m, room, hm, hr, st, H => by
  obtain ⟨k, rfl⟩ : ∃ k, m = k + 2 := ⟨m - 2, by omega⟩
  cases h with
  | @cmp _ w t u hw ht hu =>
   have hin : decide (w ∈ SWO) = true := by simp at hw; rcases hw with rfl | rfl | rfl <;> decide +kernel
   have hv : SLE.lookup w = some (.int (2 + 1 : Nat)) := by simp at hw; rcases hw with rfl | rfl | rfl <;> decide +kernel
   have ho : okN 1 (.str w) = true := by simp at hw; rcases hw with rfl | rfl | rfl <;> decide +kernel
   refine cw_pre (l := 2) hin hv rfl (odt rfl) (by omega) ho (fun z => ?_) (fun z => ?_) fun _ _ _ => ?_
   · subst z; exact absurd hw (by decide +kernel)
   · rcases z with z | z <;> subst z <;> exact absurd hw (by decide +kernel)
   · exact Bb (Aa (w_var rfl (Aa (w_var rfl (Aa (Aj (w_var rfl (Ad (Dg (af ((Uz (kwN ht (by omega) (by omega)) (kwN hu (by omega) (by omega)) ho (.inl rfl) H).imp fun d s q => ⟨rfl, q.2⟩)))))))))))
  | @alk _ t u ht hu =>
   refine cw_pre (l := 2) (by kernel_rfl) (by kernel_rfl) rfl (odt rfl) (by omega) (by decide +kernel) (fun z => ?_) (fun z => ?_) fun _ _ _ => ?_
   · exact absurd z (by decide +kernel)
   · exact absurd z (by decide +kernel)
   · exact Bb (Aa (w_var rfl (Aa (w_var rfl (Aa (Aj (w_var rfl (Ad (Dg (af ((Uz (kwN ht (by omega) (by omega)) (kwN hu (by omega) (by omega)) (by decide +kernel) (.inr ⟨rfl, rfl⟩) H).imp fun d s q => ⟨rfl, q.2⟩)))))))))))
  | @no _ s hs =>
   refine cw_pre (l := 1) (by kernel_rfl) (by kernel_rfl) rfl (odt rfl) (by omega) (by decide +kernel) (fun _ => ?_) (fun z => absurd z (by decide +kernel)) fun z => absurd rfl z
   exact Bb (Aa (w_var rfl (Aa (Ax (w_var rfl (Ad (Ca (d := s) rfl (Aa (Aj (w_var rfl (Ad (Dg (af ((cw d s hs (k + 1) (room - 1) (by omega) (by omega) st H).imp fun d s q => ⟨rfl, q.2⟩))))))))))))))
  | @two _ w a b hw ha hb =>
   have hin : decide (w ∈ SWO) = true := by simp at hw; rcases hw with rfl | rfl <;> decide +kernel
   have hv : SLE.lookup w = some (.int (1 + 1 : Nat)) := by simp at hw; rcases hw with rfl | rfl <;> decide +kernel
   have ho : okN 1 (.str w) = true := by simp at hw; rcases hw with rfl | rfl <;> decide +kernel
   refine cw_pre (l := 1) hin hv rfl (odt rfl) (by omega) ho (fun z => ?_) (fun _ => ?_) fun _ z1 z2 => ?_
   · subst z; exact absurd hw (by decide +kernel)
   · exact Bb (Aa (w_var rfl (Aa (Ax (w_var rfl (Ad (Ca (d := .tup [a, b]) rfl (Aa (Aj (w_var rfl (Ad (Dg (af ((all2 (cw d a ha k (room - 1) (by omega) (by omega)) (cw d b hb k (room - 1) (by omega) (by omega)) H).imp fun d s q => ⟨rfl, q.2⟩))))))))))))))
   · simp at hw; rcases hw with rfl | rfl
     · exact absurd rfl z1
     · exact absurd rfl z2
theorem chk (h : Sm d s) (hm : 15 + 2 * d ≤ m) (hd : d ≤ 9) (H : Has nl st) : Wr (C (FF + 5) m 14 [.loc nl, s] st) fun e s => e = .non ∧ Ex st s := by
 obtain ⟨k, rfl⟩ : ∃ k, m = k + 1 := ⟨m - 1, by omega⟩
 refine Bi [some (.loc nl), some s] (b := gu) rfl rfl (by decide) rfl ?_
 unfold gu
 refine ag (ale (ag (Bz (Bb (Aa (w_var rfl (Aa (w_var rfl (Aa (Ad (af ((cw d s h k 12 (by omega) (by omega) st H).imp ?_))))))))))))
 rintro e s2 ⟨rfl, E⟩
 exact Ag (aj (Ag (aj ⟨rfl, E⟩)))
end
section
variable {FF n nl : Nat} {st : Sto}
theorem gy {xs : List D} {i : Int} (h0 : 0 ≤ i) (h1 : i < xs.length) : ∃ d, L2.atI xs i = some d ∧ d ∈ xs := by
 have h2 : i.toNat < xs.length := by omega
 exact ⟨xs[i.toNat], by simp [L2.atI, L2.ixN, h0, h1, h2], List.getElem_mem h2⟩
theorem Ce {s : Sto} {ds : List D} : av (s ++ [.lst ds]) s.length = some ds := by simp [av]
theorem Eg {i k : Int} (h : 0 < k) : 0 ≤ i.fmod k ∧ i.fmod k < k := ⟨fm0 h, fm1 h⟩
theorem small {i : Int} : Wr (C FF (n + 1) 46 [.int i] st) fun d s => Tr .num 1 d ∧ Ex st s := by
 refine Bi [some (.int i)] (b := Lb) rfl rfl (by decide) rfl ?_
 unfold Lb
 refine ag (bb (As (Aj (w_var rfl (Ad (Bq (by decide) (Ad (ck ⟨_, rfl, fun _ => ?_, fun h => ?_⟩))))))))
 · refine ag (bf (az (Aa (Ad (Aa (Ax (cu (Aa (az (Aa (Aj (Aj (w_var rfl (Ad (dz (by decide) (Ad (Bq (by decide) ?_)))))))))))))))))
   refine Aa (Ad (af ⟨odt rfl, Aa (az (Aa (Ad (Aa (Ad (af ⟨odt rfl, Aa (az (Aa (si (Ad ⟨3, rfl, Aa (Ad (af ⟨odt rfl, ?_⟩))⟩))))⟩))))))⟩))
   refine Aa (az (Aa (Ad (Aa (Ad (af ⟨odt rfl, af ⟨odt rfl, ?_⟩⟩))))))
   refine Aj (Aj (w_var rfl (Ad (dz (by decide) (Ad (Bq (by decide) ?_))))))
   obtain ⟨h0, h1⟩ := Eg (i := i.fdiv 20) (k := 4) (by decide)
   obtain ⟨d, e, hd⟩ := gy (xs := [.tup [.int ((i.fdiv 4).fmod 5), .int 1], .tup [.int 1, .int 2], .tup [.int (-3), .int 1], .tup [.int 7, .int 3]]) h0 h1
   refine Bk Ce e (af ⟨odt rfl, ?_, .one⟩)
   simp at hd
   rcases hd with rfl | rfl | rfl | rfl
   · obtain ⟨c0, c1⟩ := Eg (i := i.fdiv 4) (k := 5) (by decide)
     generalize (i.fdiv 4).fmod 5 = c at c0 c1
     exact .num (.inl ⟨rfl, by omega⟩)
   · exact .num (.inr (.inl ⟨rfl, rfl⟩))
   · exact .num (.inl ⟨rfl, by decide⟩)
   · exact .num (.inr (.inr (.inl ⟨rfl, rfl⟩)))
 · have h := of_decide_eq_false h
   obtain ⟨h0, h1⟩ := Eg (i := i) (k := 4) (by decide)
   refine aj (Ag (ag (bf (az (Aa (Ad (Aa (Ax (cu (Aa (Ad (Aa (Ad (Aa (Ad (af ⟨odt rfl, ?_⟩))))))))))))))))
   refine Aj (w_var rfl (Ad (Bq (by decide) ?_)))
   obtain ⟨d, e, hd⟩ := gy (xs := [W "x", W "y", W "n"]) h0 (by have : (([W "x", W "y", W "n"] : List D).length : Int) = 3 := rfl; omega)
   refine Bk Ce e (af ⟨odt rfl, ?_, .one⟩)
   simp only [List.mem_cons, List.not_mem_nil, or_false] at hd
   rcases hd with rfl | rfl | rfl <;> exact .unk (by decide +kernel) (by decide +kernel)
theorem cb {i : Int} : Wr (C FF (n + 1) 47 [.int i] st) fun d s => Tr .cb 2 d ∧ Ex st s := by
 refine Bi [some (.int i), none] (b := Lc) rfl rfl (by decide) rfl ?_
 unfold Lc
 obtain ⟨h0, h1⟩ := Eg (i := i) (k := 3) (by decide)
 refine ag (Ba (az (Aa (Ad (Aa (Ax (cu (Aa (Ad (Aa (Ad (Aa (Ad (af ⟨odt rfl, Aj (w_var rfl (Ad (Bq (by decide) ?_)))⟩))))))))))))))
 obtain ⟨d, e, hd⟩ := gy (xs := [W "a", W "b", W "c"]) h0 (by have : (([W "a", W "b", W "c"] : List D).length : Int) = 3 := rfl; omega)
 have hT : Tr .cb 1 (.tup [W "unknown", d]) := by
  simp only [List.mem_cons, List.not_mem_nil, or_false] at hd
  rcases hd with rfl | rfl | rfl <;> exact .unk (by decide +kernel) (by decide +kernel)
 refine Bk Ce e (af ⟨odt rfl, odt rfl, Ag (ag (bb (As (Aj (Aj (w_var rfl (Ad (dz (by decide) (Ad (Bq (by decide) (Ad (ck ⟨_, rfl, fun _ => ?_, fun _ => ?_⟩))))))))))))⟩)
 · exact ag (bf (az (Aa (Ad (Aa (Ad (Aa (az (Aa (w_var rfl (af ⟨odt rfl, af ⟨odt rfl, .calg hT, .one⟩⟩)))))))))))
 · refine aj (Ag (ag (bf (w_var rfl ⟨?_, .one⟩))))
   cases hT with | unk a b => exact .unk a b
end
theorem Tr.up {b : Kd} {k : Nat} {t : D} (h : Tr b k t) : ∀ {m : Nat}, k ≤ m → Tr b m t := by
 induction h with
 | unk h o => intro m hm; obtain ⟨j, rfl⟩ : ∃ j, m = j + 1 := ⟨m - 1, by omega⟩; exact .unk h o
 | num h => intro m hm; obtain ⟨j, rfl⟩ : ∃ j, m = j + 1 := ⟨m - 1, by omega⟩; exact .num h
 | wei h _ i => intro m hm; obtain ⟨j, rfl⟩ : ∃ j, m = j + 1 := ⟨m - 1, by omega⟩; exact .wei h (i (by omega))
 | plu _ _ i1 i2 => intro m hm; obtain ⟨j, rfl⟩ : ∃ j, m = j + 1 := ⟨m - 1, by omega⟩; exact .plu (i1 (by omega)) (i2 (by omega))
 | calf _ i => intro m hm; obtain ⟨j, rfl⟩ : ∃ j, m = j + 1 := ⟨m - 1, by omega⟩; exact .calf (i (by omega))
 | calg _ i => intro m hm; obtain ⟨j, rfl⟩ : ∃ j, m = j + 1 := ⟨m - 1, by omega⟩; exact .calg (i (by omega))
 | calh _ _ i1 i2 => intro m hm; obtain ⟨j, rfl⟩ : ∃ j, m = j + 1 := ⟨m - 1, by omega⟩; exact .calh (i1 (by omega)) (i2 (by omega))
 | calk _ _ i1 i2 => intro m hm; obtain ⟨j, rfl⟩ : ∃ j, m = j + 1 := ⟨m - 1, by omega⟩; exact .calk (i1 (by omega)) (i2 (by omega))
 | rea _ _ i1 i2 => intro m hm; obtain ⟨j, rfl⟩ : ∃ j, m = j + 1 := ⟨m - 1, by omega⟩; exact .rea (i1 (by omega)) (i2 (by omega))
 | put _ _ _ i1 i2 i3 => intro m hm; obtain ⟨j, rfl⟩ : ∃ j, m = j + 1 := ⟨m - 1, by omega⟩; exact .put (i1 (by omega)) (i2 (by omega)) (i3 (by omega))
section
variable {FF n nl : Nat} {st : Sto}
theorem Dl {ys : List Int} {i : Int} (h0 : 0 ≤ i) (h1 : i < ys.length) : ∃ y, L2.atI (ys.map D.int) i = some (.int y) := by
 obtain ⟨d, e, hd⟩ := gy (xs := ys.map D.int) h0 (by rw [List.length_map]; exact h1)
 obtain ⟨y, _, rfl⟩ := List.mem_map.mp hd
 exact ⟨y, e⟩
theorem va {l : Nat} {ys : List Int} {k : Int} (hl : st[l]? = some (.lst (ys.map .int))) (h0 : 0 ≤ k) (h1 : k + 2 < ys.length) : Wr (C FF (n + 2) 48 [.loc l, .int k] st) fun d s => Tr .num 3 d ∧ Ex st s := by
 refine Bi [some (.loc l), some (.int k), none, none, none] (b := Ld) rfl rfl (by decide) rfl ?_
 unfold Ld
 obtain ⟨y1, e1⟩ := Dl (ys := ys) (i := k + 1) (by omega) (by omega)
 obtain ⟨y0, e0⟩ := Dl (ys := ys) (i := k) (by omega) (by omega)
 obtain ⟨y2, e2⟩ := Dl (ys := ys) (i := k + 2) (by omega) (by omega)
 refine ag (Ba (Bb (Aa (Ax (w_var rfl (Aj (w_var rfl (Ad (dg (Bk (Bd hl) e1 (af (small.imp ?_))))))))))))
 rintro one s1 ⟨T1, E1⟩
 have hl1 := Bd (E1.at hl)
 refine ⟨odt rfl, Ag (ag (Ba (Aj (Ax (w_var rfl (w_var rfl (Bk hl1 e0 (Ad (Bq (by decide) ⟨odt rfl, Ag (ag (Ba ?_))⟩)))))))))⟩
 refine az (Aa (Ad (Aa (Ax (cu (Aa (Ad (Aa (Ad (af ⟨odt rfl, ?_⟩))))))))))
 have E2 : Ex st (s1 ++ [.lst [W "p", W "q"]]) := E1.trans .one
 generalize hs2 : s1 ++ [Cell.lst [W "p", W "q"]] = s2 at E2
 have hl2 := Bd (E2.at hl)
 have hn2 : av s2 s1.length = some [W "p", W "q"] := by rw [← hs2]; exact Ce
 refine Aj (Aj (Ax (w_var rfl (w_var rfl (Bk hl2 e0 (Ad (dz (by decide) (Ad (Bq (by decide) ?_)))))))))
 obtain ⟨h2, h3⟩ := Eg (i := y0.fdiv 10) (k := 2) (by decide)
 obtain ⟨d, e, hd⟩ := gy (xs := [W "p", W "q"]) h2 (by have : (([W "p", W "q"] : List D).length : Int) = 2 := rfl; omega)
 have TA : Tr .array 1 (.tup [W "unknown", d]) := by
  simp only [List.mem_cons, List.not_mem_nil, or_false] at hd
  rcases hd with rfl | rfl <;> exact .unk (by decide +kernel) (by decide +kernel)
 refine Bk hn2 e (af ⟨odt rfl, odt rfl, Ag ?_⟩)
 generalize y0.fmod 10 = m
 generalize hA : D.tup [W "unknown", d] = arr at TA
 show Wr (Ah tab (C FF (n + 1)) FF _ [some (.loc l), some (.int k), some one, some (.int m), some arr] s2) _
 have call2 : ∀ {Q : D → Sto → Prop}, (∀ d s', Tr .num 1 d → Ex s2 s' → Q d s') → Wr (Ab tab (C FF (n + 1)) (.call 46 (.cons (.ix (.var 0) (.op .add (.var 1) (.cst (.int 2)))) .nil) []) [some (.loc l), some (.int k), some one, some (.int m), some arr] s2) Q := fun q => Bb (Aa (Ax (w_var rfl (Aj (w_var rfl (Ad (dg (Bk hl2 e2 (af (small.imp fun d s' h => q d s' h.1 h.2))))))))))
 refine ag (bb (As (w_var rfl (Ad (ck ⟨_, rfl, fun _ => ?_, fun _ => aj (Ag ?_)⟩)))))
 · exact ag (bf (az (Aa (Ad (Aa (az (Aa (w_var rfl (Aa (call2 fun d s' Td Ed => af ⟨odt rfl, af ⟨odt rfl, (Tr.plu T1 Td).up (by decide), E2.trans Ed⟩⟩))))))))))
 refine ag (bb (As (w_var rfl (Ad (ck ⟨_, rfl, fun _ => ?_, fun _ => aj (Ag ?_)⟩)))))
 · refine ag (bf (az (Aa (Ad (Aa (Ax (cu (Aa (az (Aa (Ad (Aa (Ad (af ⟨odt rfl, ?_⟩))))))))))))))
   refine Aa (az (Aa (si (Ad ⟨1, rfl, Aa (Ad (af ⟨odt rfl, Aa (az (Aa (Ad (Aa (Ad (af ⟨odt rfl, af ⟨odt rfl, ?_⟩⟩))))))⟩))⟩))))
   refine Aj (Ax (w_var rfl (Aj (w_var rfl (Ad (dg (Bk (Bd ((E2.trans .one).at hl)) e2 (Ad (Bq (by decide) ?_)))))))))
   obtain ⟨g2, g3⟩ := Eg (i := y2) (k := 3) (by decide)
   obtain ⟨f, ef, hf⟩ := gy (xs := [.tup [.int 2, .int 1], .tup [.int (-1), .int 1], .tup [.int 1, .int 3]]) g2 g3
   refine Bk Ce ef (Aa (w_var rfl (af ⟨odt rfl, ?_, E2.trans .one⟩)))
   simp at hf
   rcases hf with rfl | rfl | rfl
   · exact (Tr.wei (.inl ⟨rfl, by decide⟩) T1).up (by decide)
   · exact (Tr.wei (.inl ⟨rfl, by decide⟩) T1).up (by decide)
   · exact (Tr.wei (.inr (.inr (.inr ⟨rfl, rfl⟩))) T1).up (by decide)
 refine ag (bb (As (w_var rfl (Ad (ck ⟨_, rfl, fun _ => ?_, fun _ => aj (Ag ?_)⟩)))))
 · exact ag (bf (az (Aa (Ad (Aa (Ad (Aa (az (Aa (w_var rfl (af ⟨odt rfl, af ⟨odt rfl, (Tr.calf T1).up (by decide), E2⟩⟩)))))))))))
 refine ag (bb (As (w_var rfl (Ad (ck ⟨_, rfl, fun _ => ?_, fun _ => aj (Ag ?_)⟩)))))
 · exact ag (bf (az (Aa (Ad (Aa (w_var rfl (Aa (w_var rfl (af ⟨odt rfl, (Tr.rea TA T1).up (by decide), E2⟩)))))))))
 refine ag (bb (As (w_var rfl (Ad (ck ⟨_, rfl, fun _ => ?_, fun _ => aj (Ag ?_)⟩)))))
 · refine ag (bf (az (Aa (Ad (Aa (az (Aa (Ad (Aa (w_var rfl (Aa (call2 fun d s' Td Ed => Aa (w_var rfl (af ⟨odt rfl, ?_⟩))))))))))))))
   refine Aa (Bb (Aa (Aj (Ax (w_var rfl (Aj (w_var rfl (Ad (dg (Bk (Bd ((E2.trans Ed).at hl)) e2 (Ad (dz (by decide) (af (small.imp ?_))))))))))))))
   rintro u s4 ⟨Tu, Eu⟩
   exact af ⟨odt rfl, Tr.rea (Tr.put TA Td T1) (Tu.up (by decide)), (E2.trans Ed).trans Eu⟩
 refine ag (bb (As (w_var rfl (Ad (ck ⟨_, rfl, fun _ => ?_, fun _ => aj (Ag ?_)⟩)))))
 · refine ag (bf (az (Aa (Ad (Aa (Ad (Aa (az (Aa (Bb (Aa (Ax (w_var rfl (Aj (w_var rfl (Ad (dg (Bk hl2 e2 (af (cb.imp ?_))))))))))))))))))))
   rintro u s4 ⟨Tu, Eu⟩
   exact Aa (w_var rfl (af ⟨odt rfl, af ⟨odt rfl, Tr.calh Tu (T1.up (by decide)), E2.trans Eu⟩⟩))
 refine ag (bb (As (w_var rfl (Ad (ck ⟨_, rfl, fun _ => ?_, fun _ => aj (Ag ?_)⟩)))))
 · exact ag (bf (az (Aa (Ad (Aa (Ad (Aa (az (Aa (w_var rfl (Aa (call2 fun d s' Td Ed => af ⟨odt rfl, af ⟨odt rfl, (Tr.calk T1 Td).up (by decide), E2.trans Ed⟩⟩))))))))))))
 exact ag (bf (w_var rfl ⟨T1.up (by decide), E2⟩))
theorem Va {l : Nat} {ys : List Int} {k : Int} (hl : st[l]? = some (.lst (ys.map .int))) (h0 : 0 ≤ k) (h1 : k + 6 < ys.length) : Wr (C FF (n + 3) 49 [.loc l, .int k] st) fun d s => Sm 1 d ∧ Ex st s := by
 refine Bi [some (.loc l), some (.int k), none] (b := Le) rfl rfl (by decide) rfl ?_
 unfold Le
 obtain ⟨y0, e0⟩ := Dl (ys := ys) (i := k) (by omega) (by omega)
 obtain ⟨y1, e1⟩ := Dl (ys := ys) (i := k + 1) (by omega) (by omega)
 obtain ⟨y4, e4⟩ := Dl (ys := ys) (i := k + 4) (by omega) (by omega)
 obtain ⟨g0, g1⟩ := Eg (i := y0) (k := 7) (by decide)
 refine ag (Ba (Aj (Ax (w_var rfl (w_var rfl (Bk (Bd hl) e0 (Ad (Bq (by decide) ⟨odt rfl, Ag (ag (bb (As (w_var rfl (Ad (Ni ⟨_, rfl, fun _ => ?_, fun g => ?_⟩))))))⟩))))))))
 · refine ag (bf (az (Aa (Ad (Aa (Bb (Aa (Ax (w_var rfl (Aj (w_var rfl (Ad (dg (Bk (Bd hl) e1 (af (cb.imp ?_))))))))))))))))
   rintro a s1 ⟨Ta, E1⟩
   refine Aa (Bb (Aa (Ax (w_var rfl (Aj (w_var rfl (Ad (dg (Bk (Bd (E1.at hl)) e4 (af (cb.imp ?_)))))))))))
   rintro b s2 ⟨Tb, E2⟩
   exact af ⟨odt rfl, .alk (Ta.up (by decide)) (Tb.up (by decide)), E1.trans E2⟩
 · have g := of_decide_eq_false g
   refine aj (Ag (ag (bf (az (Aa (Ax (cu (Aa (Ad (Aa (Ad (Aa (Ad (Aa (Ad (Aa (Ad (af ⟨odt rfl, w_var rfl ?_⟩))))))))))))))))))
   obtain ⟨d, e, hd⟩ := gy (xs := [W "atmost", W "below", W "same", W "same", W "atmost"]) g0 (by have : (([W "atmost", W "below", W "same", W "same", W "atmost"] : List D).length : Int) = 5 := rfl; omega)
   refine Bk Ce e (Aa (Bb (Aa (w_var rfl (Aa (Aj (w_var rfl (Ad (dg (af ((va (Ex.one.at hl) (by omega) (by omega)).imp ?_)))))))))))
   rintro t s1 ⟨Tt, E1⟩
   refine Aa (Bb (Aa (w_var rfl (Aa (Aj (w_var rfl (Ad (dg (af ((va ((Ex.one.trans E1).at hl) (by omega) (by omega)).imp ?_))))))))))
   rintro u s2 ⟨Tu, E2⟩
   obtain ⟨w, hw, rfl⟩ : ∃ w, w ∈ [Str.ofString "atmost", Str.ofString "below", Str.ofString "same"] ∧ d = .str w := by
    simp only [List.mem_cons, List.not_mem_nil, or_false] at hd
    rcases hd with rfl | rfl | rfl | rfl | rfl <;> exact ⟨_, by decide +kernel, rfl⟩
   exact af ⟨odt rfl, .cmp hw Tt Tu, (Ex.one.trans E1).trans E2⟩
end
def Gy : Nat → Ss → Ss
 | 0, r => r
 | k + 1, .cons _ r => Gy k r
 | _ + 1, .nil => .nil
section
variable {FF n nl : Nat} {st : Sto}
theorem amf {m : Nat} (h : m ≤ 4000) : Fi [.int (m : Int)] = some (Dv 0 m) := by
 simp only [Fi]
 rw [if_pos (by constructor <;> omega)]
 simp
theorem vb : (Dv 0 m).length = m := by simp [Dv]
theorem amg {m j : Nat} {d : D} (h : (Dv 0 m)[j]? = some d) : d = .int j := by
 simp [Dv, List.getElem?_map] at h
 obtain ⟨a, h1, rfl⟩ := h
 obtain ⟨h1, rfl⟩ := List.getElem?_eq_some_iff.mp h1
 simp
theorem Oq {xs : List D} {m : Nat} (h : m ≤ xs.length) : cutD xs none (some (m : Int)) = xs.take m := by
 unfold cutD
 rw [HT.pj, HT.Pj, List.drop_zero, Nat.sub_zero, Nat.min_eq_left h]
theorem Ot : (s ++ [a]).set s.length b = s ++ [b] := by simp
theorem cn : (s ++ [a])[s.length]? = some a := by simp
theorem ou {cell : Int} {m : Nat} (hm : m ≤ 16) {ys : List Int} {num : Int} (hy : ys.length ≤ 16) : Wr (Ah tab (C (FF + 40) n) (FF + 40) (Gy 3 Ja) [some (.int cell), some (.int (m : Int)), some (.loc st.length), some (.int num), none] (st ++ [.lst (ys.map .int)])) (Kf fun d s => ∃ (l : Nat) (ys : List Int), d = .loc l ∧ s[l]? = some (.lst (ys.map .int)) ∧ ys.length = m ∧ st.length ≤ l ∧ Ex st s) := by
 unfold Ja
 refine ag (Ba (Aj (Aj (Aj (Aj (w_var rfl (Ad (dz (by decide) (Ad (dg (Ad (acp (by decide) (Ad (Bq (by decide) ⟨odt rfl, Ag (ag (acn (Aa (w_var rfl (af ⟨_, amf (by omega), ?_⟩)))))⟩))))))))))))))
 have hb := Eg (i := (cell.fdiv 2 + 7919) * 48271) (k := 2147483647) (by decide)
 refine Nh (fun j env s => ∃ (zs : List Int) (num : Int) (x : Option D), env = [some (.int cell), some (.int (m : Int)), some (.loc st.length), some (.int num), x] ∧ s = st ++ [.lst (zs.map .int)] ∧ 0 ≤ num ∧ num ≤ 2147483647 ∧ j ≤ zs.length ∧ zs.length ≤ 16 + j) (fun _ _ _ _ => rfl) ⟨ys, _, none, rfl, rfl, hb.1, by omega, by omega, by omega⟩ (fun j d hd env s hj => ?_) fun env s hj => ?_
 · obtain ⟨zs, num, x, rfl, rfl, h0, h1, h2, h3⟩ := hj
   obtain rfl := amg hd
   have hj : j < m := by have := (List.getElem?_eq_some_iff.mp hd).1; rwa [vb] at this
   refine nh (env' := [some (.int cell), some (.int (m : Int)), some (.loc st.length), some (.int num), some (.int j)]) rfl ?_
   refine ag (Ba (Aj (Aj (w_var rfl (Aj (Aj (Aj (w_var rfl (Ad (dz (by decide) (Ad (dg (w_var rfl (dg (aco ⟨by omega, by omega⟩ (Ad (Bq (by decide) ⟨odt rfl, Ag ?_⟩)))))))))))))))))
   have hb2 := Eg (i := num * (num.fdiv 1009 + 69621 + (j : Int))) (k := 2147483647) (by decide)
   refine ag (Bz (Fq (w_var rfl ⟨Hl cn, Aa (w_var rfl (af (Iw cn (by rw [List.length_map]; exact Nat.lt_of_lt_of_le (by omega : zs.length < 40) (by decide)) ?_)))⟩)))
   rw [Ot]
   refine Ag (ag (Ba (Aj (w_var rfl (Ad (dg ⟨odt rfl, Ag (aj ⟨_, rfl, zs ++ [(num * (num.fdiv 1009 + 69621 + (j : Int))).fmod 2147483647], _, _, rfl, by simp, by omega, by omega, by simp; omega, by simp; omega⟩)⟩))))))
 · obtain ⟨zs, num, x, rfl, rfl, h0, h1, h2, h3⟩ := hj
   rw [vb] at h2
   refine Ag (ag (bf (Hj (w_var rfl (Hi (w_var rfl ⟨m, rfl, Hh (Kr rfl (Bd cn) ?_)⟩))))))
   refine ⟨_, zs.take m, rfl, ?_, by simp; omega, by simp, Ex.one.trans .one⟩
   rw [Oq (by rw [List.length_map]; exact h2), ← List.map_take]
   exact cn
theorem stream {cell : Int} {m : Nat} (hm : m ≤ 16) : Wr (C (FF + 40) (n + 1) 44 [.int cell, .int (m : Int)] st) fun d s => ∃ (l : Nat) (ys : List Int), d = .loc l ∧ s[l]? = some (.lst (ys.map .int)) ∧ ys.length = m ∧ st.length ≤ l ∧ Ex st s := by
 refine Bi [some (.int cell), some (.int (m : Int)), none, none, none] (b := Ja) rfl rfl (by decide) rfl ?_
 unfold Ja
 refine ag (Ba (cu (af ⟨odt rfl, odt rfl, Ag (ag (Ba (Aj (w_var rfl (Ad (dz (by decide) ⟨odt rfl, Ag (ag ?_)⟩))))))⟩)))
 refine acv (fun mm env s => ∃ (ys : List Int) (num : Int), env = [some (.int cell), some (.int (m : Int)), some (.loc st.length), some (.int num), none] ∧ s = st ++ [.lst (ys.map .int)] ∧ mm + ys.length = m) m (by omega) ⟨[], _, rfl, rfl, rfl⟩ ?_
 rintro mm env s ⟨ys, num, rfl, rfl, hmm⟩
 refine Jp (As (Aj (w_var rfl (Ad (Bq (by decide) (Ad (ck ⟨_, rfl, fun _ => ?_, fun _ => ⟨fun z => (by cases z), fun _ => ?_⟩⟩)))))))
 · refine Jp (As (w_var rfl (Ad (Ni ⟨_, rfl, fun _ => ?_, fun _ => ⟨fun z => (by cases z), fun _ => ?_⟩⟩))))
   · refine As (Cj (Aa (w_var rfl (af (gm (Bd cn) (w_var rfl (Et ⟨_, rfl, fun h => ?_, fun _ => ?_⟩)))))))
     · have h := odt h
       rw [List.length_map] at h
       refine ag (Bz (Fq (w_var rfl ⟨Hl cn, Aa (Aj (w_var rfl (Aj (Ad (Ad (Sk (by decide) (Bq (by decide) (af (Iw cn (by rw [List.length_map]; exact Nat.lt_of_lt_of_le (by omega : ys.length < 20) (by decide)) ?_)))))))))⟩)))
       rw [Ot]
       refine Ag (ag (Ba (Aj (w_var rfl (Aj (Ad (Ad (Sk (by decide) (dz (by decide) ⟨odt rfl, Ag (aj ⟨_, mm - 1, rfl, by omega, ys ++ [num.fmod (10 ^ (9 : Int).toNat)], _, rfl, by simp, ?_⟩)⟩)))))))))
       rw [List.length_append]; simp; omega
     · exact Ag (ou hm (by omega))
   · exact Ag (ou hm (by omega))
 · exact Ag (ou hm (by omega))
end
section
variable {FF n nl : Nat} {st : Sto}
theorem Sm.up {d : Nat} {s : D} (h : Sm d s) : ∀ {m : Nat}, d ≤ m → Sm m s := by
 induction h with
 | cmp a b c => intro m hm; obtain ⟨j, rfl⟩ : ∃ j, m = j + 1 := ⟨m - 1, by omega⟩; exact .cmp a b c
 | alk a b => intro m hm; obtain ⟨j, rfl⟩ : ∃ j, m = j + 1 := ⟨m - 1, by omega⟩; exact .alk a b
 | no _ i => intro m hm; obtain ⟨j, rfl⟩ : ∃ j, m = j + 1 := ⟨m - 1, by omega⟩; exact .no (i (by omega))
 | two w _ _ i1 i2 => intro m hm; obtain ⟨j, rfl⟩ : ∃ j, m = j + 1 := ⟨m - 1, by omega⟩; exact .two w (i1 (by omega)) (i2 (by omega))
theorem stmt : Wr (C (FF + 40) (n + 4) 50 [.int cell] st) fun d s => Sm 3 d ∧ Ex st s := by
 refine Bi [some (.int cell), none, none, none] (b := Lf) rfl rfl (by decide) rfl ?_
 unfold Lf
 refine ag (Ba (Bb (Aa (w_var rfl (Aa (Ad (af ((stream (m := 16) (by decide)).imp ?_))))))))
 rintro d s1 ⟨l, ys, rfl, hl, hy, _, E1⟩
 refine ⟨odt rfl, Ag (ag (Ba (Bb (Aa (w_var rfl (Aa (Ad (af ((Va hl (by decide) (by omega)).imp ?_)))))))))⟩
 rintro one s2 ⟨T1, E2⟩
 have hl2 := E2.at hl
 obtain ⟨y0, e0⟩ := Dl (ys := ys) (i := 0) (by omega) (by omega)
 obtain ⟨y15, e15⟩ := Dl (ys := ys) (i := 15) (by omega) (by omega)
 refine ⟨odt rfl, Ag (ag (Ba (Aj (Ax (w_var rfl (Ad (Bk (Bd hl2) e0 (Ad (Bq (by decide) ⟨odt rfl, Ag ?_⟩)))))))))⟩
 generalize y0.fmod 6 = w
 have E := E1.trans E2
 show Wr (Ah tab (C (FF + 40) (n + 3)) (FF + 40) _ [some (.int cell), some (.loc l), some one, some (.int w)] s2) _
 have call8 : ∀ {Q : D → Sto → Prop}, (∀ d s', Sm 1 d → Ex s2 s' → Q d s') → Wr (Ab tab (C (FF + 40) (n + 3)) (.call 49 (.cons (.var 1) (.cons (.cst (.int 8)) .nil)) []) [some (.int cell), some (.loc l), some one, some (.int w)] s2) Q := fun q => Bb (Aa (w_var rfl (Aa (Ad (af ((Va hl2 (by decide) (by omega)).imp fun d s' h => q d s' h.1 h.2))))))
 refine ag (bb (As (w_var rfl (Ad (ck ⟨_, rfl, fun _ => ?_, fun _ => aj (Ag ?_)⟩)))))
 · exact ag (bf (az (Aa (Ad (Aa (w_var rfl (af ⟨odt rfl, (Sm.no T1).up (by decide), E⟩)))))))
 refine ag (bb (As (w_var rfl (Ad (ck ⟨_, rfl, fun _ => ?_, fun _ => aj (Ag ?_)⟩)))))
 · exact ag (bf (az (Aa (Ad (Aa (az (Aa (w_var rfl (Aa (call8 fun d s' Td Ed => af ⟨odt rfl, af ⟨odt rfl, (Sm.two (by decide +kernel) T1 Td).up (by decide), E.trans Ed⟩⟩))))))))))
 refine ag (bb (As (w_var rfl (Ad (ck ⟨_, rfl, fun _ => ?_, fun _ => aj (Ag ?_)⟩)))))
 · exact ag (bf (az (Aa (Ad (Aa (az (Aa (az (Aa (Ad (Aa (w_var rfl (af ⟨odt rfl, Aa (call8 fun d s' Td Ed => af ⟨odt rfl, af ⟨odt rfl, Sm.two (by decide +kernel) (.no T1) (Td.up (by decide)), E.trans Ed⟩⟩)⟩)))))))))))))
 refine ag (bb (Jp (As (w_var rfl (Ad (ck ⟨_, rfl, fun _ => ?_, fun _ => ⟨fun z => (by cases z), fun _ => aj (Ag ?_)⟩⟩))))))
 · refine As (Aj (Ax (w_var rfl (Ad (Bk (Bd hl2) e15 (Ad (Bq (by decide) (Ad (ck ⟨_, rfl, fun _ => ?_, fun _ => aj (Ag ?_)⟩)))))))))
   · exact ag (bf (az (Aa (Ad (Aa (az (Aa (w_var rfl (Aa (az (Aa (Ad (Aa (call8 fun d s' Td Ed => af ⟨odt rfl, af ⟨odt rfl, af ⟨odt rfl, Sm.two (by decide +kernel) (T1.up (by decide)) (.no Td), E.trans Ed⟩⟩⟩))))))))))))))
   · exact ag (bf (w_var rfl ⟨T1.up (by decide), E⟩))
 · exact ag (bf (w_var rfl ⟨T1.up (by decide), E⟩))
def ODD (l : Nat) : List D := [.tup [W "same", .tup [W "unknown", W "x"], .tup [W "unknown", W "a"]], .tup [W "not", .tup [W "same", .tup [W "unknown", W "x"], .tup [W "unknown", W "a"]]], .tup [W "atmost", .tup [W "unknown", W "x"]], .tup [W "below", .tup [W "unknown", W "z"], .tup [W "unknown", W "x"]], .int 7, .non,
 .tup [W "and", .loc l], .tup [], W "same", .tup [W "xor", .tup []], .tup [W "or", .tup [.non]]]
theorem odd {i : Int} : Wr (C FF (n + 1) 51 [.int i] st) fun d s => ∃ l xs, d ∈ ODD l ∧ s[l]? = some (.lst xs) ∧ Ex st s := by
 refine Bi [some (.int i), none, none] (b := lg) rfl rfl (by decide) rfl ?_
 unfold lg
 repeat infer_instance
 refine acq (xs := (ODD 0).take 6) (ys := (ODD (st.length + 1)).drop 6) ?_ ?_ (odt rfl) ?_
 · simp [ODD]
 · simp [ODD]
 repeat infer_instance
 obtain ⟨h0, h1⟩ := Eg (i := i) (k := 11) (by decide)
 obtain ⟨d, e, hd⟩ := gy (xs := ODD (st.length + 1)) h0 (by have : ((ODD (st.length + 1)).length : Int) = 11 := rfl; omega)
 refine Bk (xs := ODD (st.length + 1)) ?_ e ?_
 · exact Ce
 refine ⟨st.length + 1, [.tup [W "same", .tup [W "unknown", W "a"], .tup [W "unknown", W "a"]]], hd, by simp, ?_⟩
 exact Ex.app.trans (Ex.app.trans (Ex.app.trans .app))
end
section
variable {FF n nl : Nat} {st : Sto} {t : Nat → Ty → Option Bool} {call : Or} {F ec : Nat} {env : DD.Env} {P : Sto → Prop}
theorem amh {tg : List Nat} {one k : Bool} {it : E} {b : Ss} (h : Wr (Ab t call it env st) fun d s => ∃ xs p, gh k s d = some (xs, p) ∧ Xr ec P (forLoop xs p (turn t call F tg one b) xs env s)) : Xr ec P (Ak t call F (.forS tg one k it b) env st) := by
 rw [Ak]
 refine Gw (h.imp fun d s h => ?_)
 obtain ⟨xs, p, h1, h⟩ := h
 simp only [h1]; exact h
theorem ami (hs : stays st p all = true) (h : Xr ec P (body d env st)) : Xr ec P (forLoop all p body (d :: r) env st) := by
 simp only [forLoop, hs, if_true]; exact Je h
theorem amj {tg : List Nat} {one : Bool} {b : Ss} {d : D} {env' : DD.Env} (h : store tg one d env = some env') (w : Xr ec P (Ah t call F b env' st)) : Xr ec P (turn t call F tg one b d env st) := by
 rw [se h]; exact w
theorem Jx {t : D} {room : Int} (hw : C FF (n + 1) 4 [t] st = .ok .non st) : Xr 3 (Ex st) (C FF (n + 2) 15 [.loc nl, t, .int room] st) := by
 refine Dk [some (.loc nl), some t, some (.int room), none] (b := fc) rfl rfl (by decide) rfl ?_
 unfold fc
 refine Ee (Ba (Bb (Aa (w_var rfl (af (Df hw ⟨odt rfl, _, rfl, bu (Ga (Cq (As (w_var rfl (Ad (Et ⟨_, rfl, ?_⟩))))))⟩))))))
 exact ⟨fun _ => cq (dq (.refl _)), fun _ => Cq (acw (w_var rfl ⟨rfl, cq (cq (dq (.refl _)))⟩))⟩
theorem Vb (h3 : r.length ≤ 3) (h : decide (x ∈ SWO) = false ∨ ∃ v : Int, SLE.lookup x = some (.int v) ∧ decide ((r.length + 1 : Nat) = v) = false) : Xr 3 (Ex st) (C FF (n + 2) 15 [.loc nl, .tup (.str x :: r), .int room] st) := by
 refine Dk [some (.loc nl), some (.tup (.str x :: r)), some (.int room), none] (b := fc) rfl rfl (by decide) rfl ?_
 unfold fc
 refine Ee (Ba (Bb (Aa (w_var rfl (af (Df (jf h3) ⟨odt rfl, _, rfl, bu (Ga (Cq (As (w_var rfl (Ad (Et ⟨_, rfl, ?_⟩))))))⟩))))))
 refine ⟨fun _ => cq (dq (.refl _)), fun hr => Cq (Iy (w_var rfl ⟨x, rfl, ?_⟩))⟩
 cases hin : decide (x ∈ SWO) with
 | false => exact cq (cq (dq (.refl _)))
 | true =>
  refine Bg (As (Cj (Aa (w_var rfl (af (Fs ?_))))))
  rcases h with h | ⟨v, hv, h⟩
  · rw [hin] at h; cases h
  · refine iy (w_var rfl ⟨x, _, rfl, hv, Hk ⟨_, rfl, ?_⟩⟩)
    rw [show decide (((D.str x :: r).length : Int) = v) = false from h]
    exact cq (dq (.refl _))
theorem jg (hin : decide (w ∈ SWO) = true) (hv : SLE.lookup w = some (.int (l + 1 : Nat))) (hl : r.length = l) (h3 : r.length ≤ 3) (hr : 1 ≤ room) (hw : okN 1 (.str w) = true)
 (hn : w = Str.ofString "not" → Xr ec P (Ab tab (C FF (n + 1)) (.call 15 (.cons (.var 0) (.cons (.ix (.var 1) (.cst (.int 1))) (.cons (.op .sub (.var 2) (.cst (.int 1))) .nil))) []) [some (.loc nl), some (.tup (.str w :: r)), some (.int room), some (.str w)] st))
 (hp : w = Str.ofString "and" ∨ w = Str.ofString "or" → Xr ec P (Ab tab (C FF (n + 1)) (.call 16 (.cons (.var 0) (.cons (.ix (.var 1) (.cst (.int 1))) (.cons (.op .sub (.var 2) (.cst (.int 1))) .nil))) []) [some (.loc nl), some (.tup (.str w :: r)), some (.int room), some (.str w)] st))
 (ha : w ≠ Str.ofString "not" → w ≠ Str.ofString "and" → w ≠ Str.ofString "or" → Xr ec P (Ab tab (C FF (n + 1)) (.call 17 (.cons (.var 0) (.cons (.var 1) (.cons (.op .sub (.var 2) (.cst (.int 1))) .nil))) []) [some (.loc nl), some (.tup (.str w :: r)), some (.int room), some (.str w)] st)) :
 Xr ec P (C FF (n + 2) 15 [.loc nl, .tup (.str w :: r), .int room] st) := by
 refine Dk [some (.loc nl), some (.tup (.str w :: r)), some (.int room), none] (b := fc) rfl rfl (by decide) rfl ?_
 unfold fc
 refine Ee (Ba (Bb (Aa (w_var rfl (af (Df (jf h3) ⟨odt rfl, _, rfl, Ee (bb ?_)⟩))))))
 refine Cq (As (w_var rfl (Ad (Et ⟨_, rfl, ?_⟩))))
 rw [decide_eq_false (by omega : ¬ room < 1)]
 refine Bg (Cq (Iy (w_var rfl ⟨w, rfl, ?_⟩)))
 rw [show decide (w ∈ [Str.ofString "atmost", Str.ofString "below", Str.ofString "same", Str.ofString "not", Str.ofString "and", Str.ofString "or"]) = true from hin]
 refine Bg (As (Cj (Aa (w_var rfl (af (Fs (iy (w_var rfl ⟨w, _, rfl, hv, Hk ⟨_, rfl, ?_⟩⟩))))))))
 rw [jx (by simp [hl])]
 refine Bg (aj ⟨_, rfl, bu (Ga (As (w_var rfl (Ad (Sl (ok1 hw) (okW (by kernel_rfl)) ⟨_, rfl, ?_, ?_⟩)))))⟩)
 · intro h
   have h := odt h
   injection h with h
   exact bu (Ic (hn h))
 · intro h
   have h := of_decide_eq_false h
   have hnn : w ≠ Str.ofString "not" := fun z => h (by rw [z])
   refine bu (Ga (As (w_var rfl (az (Aa (Ad (Aa (Ad (af ⟨odt rfl, sm (ok1 hw) (by decide +kernel) ⟨_, rfl, ?_, ?_⟩⟩)))))))))
   · intro g
     have g := odt g
     simp only [List.mem_cons, List.not_mem_nil, or_false, D.str.injEq] at g
     exact bu (Ic (hp g))
   · intro g
     have g := of_decide_eq_false g
     simp only [List.mem_cons, List.not_mem_nil, or_false, D.str.injEq, not_or] at g
     exact bu (Ic (ha hnn g.1 g.2))
theorem amk {w : Str} {t u : D} {room : Int} (ht : Xr 2 (Ex st) (C FF n 5 [.loc nl, t, .int room] st)) : Xr 2 (Ex st) (C FF (n + 1) 17 [.loc nl, .tup [.str w, t, u], .int room] st) := by
 refine Dk [some (.loc nl), some (.tup [.str w, t, u]), some (.int room), none] (b := gv) rfl rfl (by decide) rfl ?_
 unfold gv
 exact bu (Oo (Ef (Aa (w_var rfl (Aa (Ax (w_var rfl (Ad (Ca (d := t) rfl (Aa (w_var rfl (af ht))))))))))))
theorem vc {w : Str} {t u : D} {j k : Kd} {room : Int} (ht : Kw nl FF n j t room) (hu : Kw nl FF n k u room) (hk : k ≠ j) (H : Has nl st) : Xr 3 (Ex st) (C FF (n + 1) 17 [.loc nl, .tup [.str w, t, u], .int room] st) := by
 refine Dk [some (.loc nl), some (.tup [.str w, t, u]), some (.int room), none] (b := gv) rfl rfl (by decide) rfl ?_
 unfold gv
 refine Ee (Ba (Bb (Aa (w_var rfl (Aa (Ax (w_var rfl (Ad (Ca (d := t) rfl (Aa (w_var rfl (af ((ht st H).imp ?_)))))))))))))
 rintro d s1 ⟨rfl, E1⟩
 refine ⟨odt rfl, _, rfl, bu (Ga (As (Bb (Aa (w_var rfl (Aa (Ax (w_var rfl (Ad (Ca (d := u) rfl (Aa (w_var rfl (af ((hu s1 (H.ex E1)).imp ?_))))))))))))))⟩
 rintro d s2 ⟨rfl, E2⟩
 refine w_var rfl (jq (Jf _) (Jf _) ⟨_, rfl, ?_⟩)
 rw [alo hk]
 exact cq (dq (E1.trans E2))
theorem aml (h : st[l]? = some (.lst xs)) : Xr 3 (Ex st) (C FF (n + 1) 16 [.loc nl, .loc l, .int room] st) := by
 refine Dk [some (.loc nl), some (.loc l), some (.int room), none] (b := Gu) rfl rfl (by decide) rfl ?_
 unfold Gu
 exact bu (Ga (er (Gk (w_var rfl ⟨.b "list", false, Sn (Bd h), rfl, ni (dq (.refl _))⟩))))
theorem amm {t : D} {room : Int} (h : Xr 3 (Ex st) (C FF n 15 [.loc nl, t, .int room] st)) : Xr 3 (Ex st) (C FF (n + 1) 16 [.loc nl, .tup [t], .int room] st) := by
 refine Dk [some (.loc nl), some (.tup [t]), some (.int room), none] (b := Gu) rfl rfl (by decide) rfl ?_
 unfold Gu
 refine Ee (bb (er (Gk (w_var rfl ⟨.b "tuple", true, rfl, rfl, Kq (aj ⟨_, rfl, bu (amh (w_var rfl ⟨[t], none, rfl, ami rfl (amj rfl ?_)⟩))⟩)⟩))))
 exact bu (Ic (Ef (Aa (w_var rfl (Aa (w_var rfl (Aa (w_var rfl (af h)))))))))
theorem Ff (h : Xr 3 (Ex st) (C FF n 15 [.loc nl, s, .int 12] st)) : Xr 3 (Ex st) (C FF (n + 1) 14 [.loc nl, s] st) := by
 refine Dk [some (.loc nl), some s] (b := gu) rfl rfl (by decide) rfl ?_
 unfold gu
 exact bu (ald (k := 3) (by decide) (bu (Ic (Ef (Aa (w_var rfl (Aa (w_var rfl (Aa (Ad (af h)))))))))))
theorem amn (h : Xr 2 (Ex st) (C FF n 15 [.loc nl, s, .int 12] st)) : Xr 3 (Ex st) (C FF (n + 1) 14 [.loc nl, s] st) := by
 refine Dk [some (.loc nl), some s] (b := gu) rfl rfl (by decide) rfl ?_
 unfold gu
 refine bu (Xr.imp (P := fun s => ∃ s0, s = s0 ++ [.exn 2] ∧ Ex st s0) ?_ ?_)
 · exact alc (by decide) (bu (Ic (Ef (Aa (w_var rfl (Aa (w_var rfl (Aa (Ad (af h))))))))))
 · rintro s1 ⟨s0, rfl, E⟩
   exact E.trans .one
theorem kux : Kw nl (FF + 5) (n + 6) .num (.tup [W "unknown", W "x"]) 11 := kwN (k := 1) (.unk (by decide +kernel) (by decide +kernel)) (by omega) (by decide)
theorem amo : Kw nl (FF + 5) (n + 6) .num (.tup [W "unknown", W "x"]) 10 := kwN (k := 1) (.unk (by decide +kernel) (by decide +kernel)) (by omega) (by decide)
theorem kua : Kw nl (FF + 5) (n + 6) .cb (.tup [W "unknown", W "a"]) 11 := kwN (k := 1) (.unk (by decide +kernel) (by decide +kernel)) (by omega) (by decide)
theorem amq : Kw nl (FF + 5) (n + 6) .cb (.tup [W "unknown", W "a"]) 10 := kwN (k := 1) (.unk (by decide +kernel) (by decide +kernel)) (by omega) (by decide)
theorem amr {l : Nat} {xs : List D} {d : D} (hd : d ∈ ODD l) (hl : st[l]? = some (.lst xs)) (H : Has nl st) : Xr 3 (Ex st) (C (FF + 5) (n + 10) 14 [.loc nl, d] st) := by
 simp only [ODD, List.mem_cons, List.not_mem_nil, or_false] at hd
 rcases hd with rfl | rfl | rfl | rfl | rfl | rfl | rfl | rfl | rfl | rfl | rfl
 · refine Ff (n := n + 9) (jg (n := n + 7) (l := 2) (by kernel_rfl) (by kernel_rfl) rfl (odt rfl) (by decide) (by decide +kernel) (fun z => absurd z (by decide +kernel)) (fun z => absurd z (by decide +kernel)) fun _ _ _ => ?_)
   exact Ef (Aa (w_var rfl (Aa (w_var rfl (Aa (Aj (w_var rfl (Ad (Dg (af (vc (n := n + 7) (kux (n := n + 1)) (kua (n := n + 1)) (fun z => by cases z) H)))))))))))
 · refine Ff (n := n + 9) (jg (n := n + 7) (l := 1) (by kernel_rfl) (by kernel_rfl) rfl (odt rfl) (by decide) (by decide +kernel) (fun _ => ?_) (fun z => absurd z (by decide +kernel)) fun z => absurd rfl z)
   refine Ef (Aa (w_var rfl (Aa (Ax (w_var rfl (Ad (Ca rfl (Aa (Aj (w_var rfl (Ad (Dg (af ?_)))))))))))))
   refine jg (n := n + 6) (l := 2) (by kernel_rfl) (by kernel_rfl) rfl (odt rfl) (by decide) (by decide +kernel) (fun z => absurd z (by decide +kernel)) (fun z => absurd z (by decide +kernel)) fun _ _ _ => ?_
   exact Ef (Aa (w_var rfl (Aa (w_var rfl (Aa (Aj (w_var rfl (Ad (Dg (af (vc (n := n + 6) amo amq (fun z => by cases z) H)))))))))))
 · exact Ff (n := n + 9) (Vb (n := n + 7) (odt rfl) (.inr ⟨3, by decide +kernel, by decide⟩))
 · refine amn (n := n + 9) (jg (n := n + 7) (l := 2) (by kernel_rfl) (by kernel_rfl) rfl (odt rfl) (by decide) (by decide +kernel) (fun z => absurd z (by decide +kernel)) (fun z => absurd z (by decide +kernel)) fun _ _ _ => ?_)
   refine Ef (Aa (w_var rfl (Aa (w_var rfl (Aa (Aj (w_var rfl (Ad (Dg (af (amk (n := n + 7) ?_)))))))))))
   refine alm (n := n + 5) (l := 1) (i := 8) (by kernel_rfl) (by kernel_rfl) (by kernel_rfl) rfl (odt rfl) rfl fun _ => ?_
   exact als (n := n + 4) (H.ex .one) ((Uy (H.ex .one)).imp fun d s q => ⟨q.1.trans (by decide +kernel), q.2⟩)
 · exact Ff (n := n + 9) (Jx (n := n + 7) (by kernel_rfl))
 · exact Ff (n := n + 9) (Jx (n := n + 7) (by kernel_rfl))
 · refine Ff (n := n + 9) (jg (n := n + 7) (l := 1) (by kernel_rfl) (by kernel_rfl) rfl (odt rfl) (by decide) (by decide +kernel) (fun z => absurd z (by decide +kernel)) (fun _ => ?_) fun _ z => absurd rfl z)
   exact Ef (Aa (w_var rfl (Aa (Ax (w_var rfl (Ad (Ca rfl (Aa (Aj (w_var rfl (Ad (Dg (af (aml (n := n + 7) hl))))))))))))))
 · exact Ff (n := n + 9) (Jx (n := n + 7) (by kernel_rfl))
 · exact Ff (n := n + 9) (Jx (n := n + 7) (by kernel_rfl))
 · exact Ff (n := n + 9) (Vb (n := n + 7) (odt rfl) (.inl (by decide +kernel)))
 · refine Ff (n := n + 9) (jg (n := n + 7) (l := 1) (by kernel_rfl) (by kernel_rfl) rfl (odt rfl) (by decide) (by decide +kernel) (fun z => absurd z (by decide +kernel)) (fun _ => ?_) fun _ _ z => absurd rfl z)
   exact Ef (Aa (w_var rfl (Aa (Ax (w_var rfl (Ad (Ca rfl (Aa (Aj (w_var rfl (Ad (Dg (af (amm (n := n + 7) (Jx (n := n + 5) (by kernel_rfl))))))))))))))))
end
section
variable {FF n nl : Nat} {st : Sto}
theorem Vc {S : Nat} : (HF nl S).lookup (Str.ofString "names") = some (.loc nl) := by kernel_rfl
theorem Jg {S : Nat} : (HF nl S).lookup (Str.ofString "statements") = some (.loc S) := by kernel_rfl
theorem Ou {S : Nat} : (HF nl S).lookup (Str.ofString "tell") = none := by kernel_rfl
theorem Ov {S : Nat} : (HF nl S).lookup (Str.ofString "back") = none := by kernel_rfl
theorem ow {S : Nat} : (HF nl S).lookup (Str.ofString "told") = none := by kernel_rfl
theorem vd {S : Nat} : cy (Str.ofString "known") .non (HF nl S) = HF nl S := by kernel_rfl
theorem ams {S T : Nat} : cy (Str.ofString "statements") (.loc T) (HF nl S) = HF nl T := by kernel_rfl
theorem set_same {s : Sto} {h : Nat} {c : Cell} (e : s[h]? = some c) : s.set h c = s := by
 apply List.ext_getElem?
 intro i
 by_cases z : h = i
 · subst z
   rw [List.getElem?_set_self (List.getElem?_eq_some_iff.mp e).1, e]
 · rw [List.getElem?_set_ne z]
theorem ax {s : Sto} {h i : Nat} {c x : Cell} (n : i ≠ h) (e : s[i]? = some x) : (s.set h c)[i]? = some x := by
 rw [List.getElem?_set_ne (Ne.symm n)]; exact e
theorem ie {s : Sto} {h : Nat} {c x : Cell} (e : s[h]? = some x) : (s.set h c)[h]? = some c := List.getElem?_set_self (List.getElem?_eq_some_iff.mp e).1
structure Ho (nl h S : Nat) (L : List D) (s : Sto) : Prop where
 c : s[h]? = some (.ins 5 (HF nl S))
 l : s[S]? = some (.lst L)
 n : Has nl s
theorem Ho.ex {h S : Nat} {L : List D} {a b : Sto} (H : Ho nl h S L a) (e : Ex a b) : Ho nl h S L b := ⟨e.at H.c, e.at H.l, H.n.ex e⟩
theorem Ho.ne {h S : Nat} {L : List D} {s : Sto} (H : Ho nl h S L s) : h ≠ S := fun z => by have := H.l; rw [← z, H.c] at this; cases this
theorem tell {h S : Nat} {L : List D} {d : D} (H : Ho nl h S L st) (hd : Sm 3 d) (hL : L.length < 4000) : Wr (C (FF + 5) (n + 22) 19 [.loc h, d] st) fun e s => e = .non ∧ ∃ s1, Ex st s1 ∧ s = s1.set S (.lst (L ++ [d])) := by
 refine Bi [some (.loc h), some d] (b := Iz) rfl rfl (by decide) rfl ?_
 unfold Iz
 refine ag (Bz (Bb (Aa (w_fld (w_var rfl ⟨h, HF nl S, .loc nl, rfl, H.c, Vc, Aa (w_var rfl (af ((chk (m := n + 21) hd (by omega) (by decide) H.n).imp ?_)))⟩)))))
 rintro e s1 ⟨rfl, E1⟩
 refine Ag (ag (Bz (Fq (w_fld (w_var rfl ⟨h, HF nl S, .loc S, rfl, E1.at H.c, Jg, Hl (E1.at H.l), Aa (w_var rfl (af (Iw (E1.at H.l) (Nat.lt_of_lt_of_le hL (by decide)) ?_)))⟩)))))
 have hc : (s1.set S (.lst (L ++ [d])))[h]? = some (.ins 5 (HF nl S)) := ax H.ne (E1.at H.c)
 refine Ag (ag (Ng (Ad (w_var rfl ⟨h, HF nl S, rfl, hc, odt rfl, ?_⟩))))
 rw [vd, set_same hc]
 exact Ag (aj ⟨rfl, s1, E1, rfl⟩)
theorem amt {h S l : Nat} {L xs : List D} {d : D} (H : Ho nl h S L st) (hd : d ∈ ODD l) (hl : st[l]? = some (.lst xs)) : Xr 3 (Ex st) (C (FF + 5) (n + 11) 19 [.loc h, d] st) := by
 refine Dk [some (.loc h), some d] (b := Iz) rfl rfl (by decide) rfl ?_
 unfold Iz
 exact bu (Ic (Ef (Aa (w_fld (w_var rfl ⟨h, HF nl S, .loc nl, rfl, H.c, Vc, Aa (w_var rfl (af (amr hd hl H.n)))⟩)))))
theorem back {h S : Nat} {L : List D} {m : Int} (H : Ho nl h S L st) (h0 : 0 ≤ m) (h1 : m ≤ L.length) : Wr (C FF (n + 1) 20 [.loc h, .int m] st) fun e s => e = .non ∧ s = (st ++ [Cell.lst (L.take (L.length - m.toNat))]).set h (.ins 5 (HF nl st.length)) := by
 refine Bi [some (.loc h), some (.int m)] (b := ja) rfl rfl (by decide) rfl ?_
 unfold ja
 refine ag (bb (er (Sj (Ad (w_var rfl (kr ⟨_, rfl, fun _ => ?_, fun z => absurd h0 (of_decide_eq_false z)⟩))))))
 refine Cj (Aa (w_fld (w_var rfl ⟨h, HF nl S, .loc S, rfl, H.c, Jg, af (gm (Bd H.l) (kr ⟨_, rfl, ?_⟩))⟩)))
 rw [decide_eq_true h1]
 refine Kq (aj (Ag (ag (Ng (Hj (w_fld (w_var rfl ⟨h, HF nl S, .loc S, rfl, H.c, Jg, Hi (Aj (Cj (Aa (w_fld (w_var rfl ⟨h, HF nl S, .loc S, rfl, H.c, Jg, af (gm (Bd H.l) (w_var rfl (Dg ⟨_, rfl, Hh (Kr rfl (Bd H.l) ?_)⟩)))⟩)))))⟩)))))))
 have ec : cutD L none (some ((L.length : Int) - m)) = L.take (L.length - m.toNat) := by
  rw [show (L.length : Int) - m = ((L.length - m.toNat : Nat) : Int) by omega]
  exact Oq (by omega)
 rw [ec]
 have E : Ex st (st ++ [.lst (L.take (L.length - m.toNat))]) := .one
 refine w_var rfl ⟨h, HF nl S, rfl, E.at H.c, odt rfl, ?_⟩
 rw [ams]
 have hc := ie (c := .ins 5 (HF nl st.length)) (E.at H.c)
 refine Ag (ag (Ng (Ad (w_var rfl ⟨h, HF nl st.length, rfl, hc, odt rfl, ?_⟩))))
 rw [vd, set_same hc]
 exact Ag (aj ⟨rfl, rfl⟩)
theorem amu {h S : Nat} {L : List D} {m : Int} (H : Ho nl h S L st) (hm : m < 0 ∨ (L.length : Int) < m) : Xr 4 (Ex st) (C FF (n + 1) 20 [.loc h, .int m] st) := by
 refine Dk [some (.loc h), some (.int m)] (b := ja) rfl rfl (by decide) rfl ?_
 unfold ja
 refine bu (Ga (er (Sj (Ad (w_var rfl (kr ⟨_, rfl, fun z => ?_, fun _ => ni (dq (.refl _))⟩))))))
 have z := odt z
 refine Cj (Aa (w_fld (w_var rfl ⟨h, HF nl S, .loc S, rfl, H.c, Jg, af (gm (Bd H.l) (kr ⟨_, rfl, ?_⟩))⟩)))
 rw [decide_eq_false (by omega)]
 exact ni (dq (.refl _))
theorem told {h S : Nat} {L : List D} (H : Ho nl h S L st) : Wr (C FF (n + 1) 21 [.loc h] st) fun e s => e = .loc st.length ∧ s = st ++ [.lst L] := by
 refine Bi [some (.loc h)] (b := la) rfl rfl (by decide) rfl ?_
 unfold la
 exact ag (bf (Cj (Aa (w_fld (w_var rfl ⟨h, HF nl S, .loc S, rfl, H.c, Jg, af (acu (Bd H.l) ⟨rfl, rfl⟩)⟩)))))
theorem amv {h S : Nat} {L : List D} {d : D} (H : Ho nl h S L st) (hd : Sm 3 d) (hL : L.length < 4000) : Wr (C (FF + 5) (n + 23) 52 [.loc h, d] st) fun e s => e = .non ∧ ∃ s1, Ex st s1 ∧ s = s1.set S (.lst (L ++ [d])) := by
 refine Bi [some (.loc h), some d, none, none] (b := jb) rfl rfl (by decide) rfl ?_
 unfold jb
 refine ag (sr (ag (Ba (Ep (w_var rfl ⟨h, HF nl S, rfl, H.c, Ou, Aa (w_var rfl (af ((tell H hd hL).imp ?_)))⟩)))))
 rintro e s ⟨rfl, q⟩
 exact ⟨odt rfl, Ag (aj (Ag (ag (bf (w_var rfl ⟨rfl, q⟩)))))⟩
theorem amw {h S l : Nat} {L xs : List D} {d : D} (H : Ho nl h S L st) (hd : d ∈ ODD l) (hl : st[l]? = some (.lst xs)) : Wr (C (FF + 5) (n + 12) 52 [.loc h, d] st) fun e s => ∃ l, e = .loc l ∧ s[l]? = some (.lst [W "bad", .bl true]) ∧ Ex st s := by
 refine Bi [some (.loc h), some d, none, none] (b := jb) rfl rfl (by decide) rfl ?_
 unfold jb
 refine ag (Uw (k := 3) (by decide) (odt rfl) (Xr.imp (P := Ex st) ?_ ?_))
 · exact bu (Oo (uw (w_var rfl ⟨h, HF nl S, rfl, H.c, Ou, Aa (w_var rfl (af (amt H hd hl)))⟩)))
 · intro s E
   refine ag (bf (cu (Aa (Ad (Aa (w_and (kq (w_var rfl ⟨.o 3, true, by simp [Di, Jk], by decide, true, rfl, fun _ => w_not (kq (w_var rfl ⟨.o 3, false, by simp [Di, Jk], by decide, false, rfl, af ⟨odt rfl, ?_⟩⟩)), fun z => (by cases z)⟩))))))))
   exact ⟨_, rfl, _, rfl, cn, (E.trans .one).trans .one⟩
theorem amx {h S : Nat} {L : List D} {m : Int} (H : Ho nl h S L st) (h0 : 0 ≤ m) (h1 : m ≤ L.length) : Wr (C FF (n + 2) 53 [.loc h, .int m] st) fun e s => e = .non ∧ s = (st ++ [Cell.lst (L.take (L.length - m.toNat))]).set h (.ins 5 (HF nl st.length)) := by
 refine Bi [some (.loc h), some (.int m), none, none] (b := Jb) rfl rfl (by decide) rfl ?_
 unfold Jb
 refine ag (sr (ag (Ba (Ep (w_var rfl ⟨h, HF nl S, rfl, H.c, Ov, Aa (w_var rfl (af ((back H h0 h1).imp ?_)))⟩)))))
 rintro e s ⟨rfl, q⟩
 exact ⟨odt rfl, Ag (aj (Ag (ag (bf (w_var rfl ⟨rfl, q⟩)))))⟩
theorem amy {h S : Nat} {L : List D} {m : Int} (H : Ho nl h S L st) (hm : m < 0 ∨ (L.length : Int) < m) : Wr (C FF (n + 2) 53 [.loc h, .int m] st) fun e s => ∃ l, e = .loc l ∧ s[l]? = some (.lst [W "few", .bl true]) ∧ Ex st s := by
 refine Bi [some (.loc h), some (.int m), none, none] (b := Jb) rfl rfl (by decide) rfl ?_
 unfold Jb
 refine ag (Uw (k := 4) (by decide) (odt rfl) (Xr.imp (P := Ex st) ?_ ?_))
 · exact bu (Oo (uw (w_var rfl ⟨h, HF nl S, rfl, H.c, Ov, Aa (w_var rfl (af (amu H hm)))⟩)))
 · intro s E
   refine ag (bf (cu (Aa (Ad (Aa (w_and (kq (w_var rfl ⟨.o 4, true, by simp [Di, Jk], by decide, true, rfl, fun _ => w_not (kq (w_var rfl ⟨.o 4, false, by simp [Di, Jk], by decide, false, rfl, af ⟨odt rfl, ?_⟩⟩)), fun z => (by cases z)⟩))))))))
   exact ⟨_, rfl, _, rfl, cn, (E.trans .one).trans .one⟩
end
section
variable {FF n nl : Nat} {st : Sto}
theorem kne {s : Sto} {i j : Nat} {a b : Cell} (e1 : s[i]? = some a) (e2 : s[j]? = some b) (h : a ≠ b) : i ≠ j := fun z => by
 subst z; rw [e1] at e2; exact h (Option.some.inj e2)
theorem Bx {s : Sto} {i : Nat} {a : Cell} (e : s[i]? = some a) : i < s.length := (List.getElem?_eq_some_iff.mp e).1
theorem Has.set {s : Sto} {S : Nat} {M : List D} {c : Cell} (H : Has nl s) (e : s[S]? = some (.lst M)) : Has nl (s.set S c) :=
 ⟨ax (kne H.i e (fun z => by cases z)) H.i, ax (kne H.d e (fun z => by cases z)) H.d, ax (kne H.u e (fun z => by cases z)) H.u⟩
theorem Has.seth {s : Sto} {h : Nat} {f : List (Str × D)} {c : Cell} (H : Has nl s) (e : s[h]? = some (.ins 5 f)) : Has nl (s.set h c) :=
 ⟨ax (kne H.i e (fun z => by cases z)) H.i, ax (kne H.d e (fun z => by cases z)) H.d, ax (kne H.u e (fun z => by cases z)) H.u⟩
structure Iv (xs : List D) (S1 S2 A1 A2 l : Nat) (M1 M2 L1 L2 Y : List D) (s : Sto) : Prop where
 h1 : Ho 6 46 S1 M1 s
 h2 : Ho 53 93 S2 M2 s
 a1 : s[A1]? = some (.lst L1)
 a2 : s[A2]? = some (.lst L2)
 p : s[97]? = some (.lst xs)
 q : s[l]? = some (.lst Y)
 d1 : S1 ≠ S2 ∧ S1 ≠ A1 ∧ S1 ≠ A2 ∧ S1 ≠ 97 ∧ S1 ≠ l
 d2 : S2 ≠ A1 ∧ S2 ≠ A2 ∧ S2 ≠ 97 ∧ S2 ≠ l
 d3 : A1 ≠ A2 ∧ A1 ≠ 97 ∧ A1 ≠ l
 d4 : A2 ≠ 97 ∧ A2 ≠ l
variable {xs M1 M2 L1 L2 Y : List D} {S1 S2 A1 A2 l : Nat} {s s' : Sto}
theorem Iv.ex (I : Iv xs S1 S2 A1 A2 l M1 M2 L1 L2 Y s) (e : Ex s s') : Iv xs S1 S2 A1 A2 l M1 M2 L1 L2 Y s' := ⟨I.h1.ex e, I.h2.ex e, e.at I.a1, e.at I.a2, e.at I.p, e.at I.q, I.d1, I.d2, I.d3, I.d4⟩
theorem Iv.new (I : Iv xs S1 S2 A1 A2 l M1 M2 L1 L2 Y s) (e : Ex s s') {k : Nat} {Z : List D} (hk : s'[k]? = some (.lst Z)) (hn : s.length ≤ k) : Iv xs S1 S2 A1 A2 k M1 M2 L1 L2 Z s' := by
 have a := Bx I.h1.l; have b := Bx I.h2.l; have c := Bx I.a1; have d := Bx I.a2
 exact ⟨I.h1.ex e, I.h2.ex e, e.at I.a1, e.at I.a2, e.at I.p, hk, ⟨I.d1.1, I.d1.2.1, I.d1.2.2.1, I.d1.2.2.2.1, by omega⟩, ⟨I.d2.1, I.d2.2.1, I.d2.2.2.1, by omega⟩, ⟨I.d3.1, I.d3.2.1, by omega⟩, ⟨I.d4.1, by omega⟩⟩
theorem Iv.s1 (I : Iv xs S1 S2 A1 A2 l M1 M2 L1 L2 Y s) {N : List D} : Iv xs S1 S2 A1 A2 l N M2 L1 L2 Y (s.set S1 (.lst N)) :=
 ⟨⟨ax I.h1.ne I.h1.c, ie I.h1.l, I.h1.n.set I.h1.l⟩, ⟨ax (kne I.h2.c I.h1.l (fun z => by cases z)) I.h2.c, ax I.d1.1.symm I.h2.l, I.h2.n.set I.h1.l⟩, ax I.d1.2.1.symm I.a1, ax I.d1.2.2.1.symm I.a2, ax I.d1.2.2.2.1.symm I.p, ax I.d1.2.2.2.2.symm I.q, I.d1, I.d2, I.d3, I.d4⟩
theorem Iv.s2 (I : Iv xs S1 S2 A1 A2 l M1 M2 L1 L2 Y s) {N : List D} : Iv xs S1 S2 A1 A2 l M1 N L1 L2 Y (s.set S2 (.lst N)) :=
 ⟨⟨ax (kne I.h1.c I.h2.l (fun z => by cases z)) I.h1.c, ax I.d1.1 I.h1.l, I.h1.n.set I.h2.l⟩, ⟨ax I.h2.ne I.h2.c, ie I.h2.l, I.h2.n.set I.h2.l⟩, ax I.d2.1.symm I.a1, ax I.d2.2.1.symm I.a2, ax I.d2.2.2.1.symm I.p, ax I.d2.2.2.2.symm I.q, I.d1, I.d2, I.d3, I.d4⟩
theorem Iv.b1 (I : Iv xs S1 S2 A1 A2 l M1 M2 L1 L2 Y s) {N : List D} : Iv xs S1 S2 A1 A2 l M1 M2 N L2 Y (s.set A1 (.lst N)) :=
 ⟨⟨ax (kne I.h1.c I.a1 (fun z => by cases z)) I.h1.c, ax I.d1.2.1 I.h1.l, I.h1.n.set I.a1⟩, ⟨ax (kne I.h2.c I.a1 (fun z => by cases z)) I.h2.c, ax I.d2.1 I.h2.l, I.h2.n.set I.a1⟩, ie I.a1, ax I.d3.1.symm I.a2, ax I.d3.2.1.symm I.p, ax I.d3.2.2.symm I.q, I.d1, I.d2, I.d3, I.d4⟩
theorem Iv.b2 (I : Iv xs S1 S2 A1 A2 l M1 M2 L1 L2 Y s) {N : List D} : Iv xs S1 S2 A1 A2 l M1 M2 L1 N Y (s.set A2 (.lst N)) :=
 ⟨⟨ax (kne I.h1.c I.a2 (fun z => by cases z)) I.h1.c, ax I.d1.2.2.1 I.h1.l, I.h1.n.set I.a2⟩, ⟨ax (kne I.h2.c I.a2 (fun z => by cases z)) I.h2.c, ax I.d2.2.1 I.h2.l, I.h2.n.set I.a2⟩, ax I.d3.1 I.a1, ie I.a2, ax I.d4.1.symm I.p, ax I.d4.2.symm I.q, I.d1, I.d2, I.d3, I.d4⟩
theorem Iv.n1 (I : Iv xs S1 S2 A1 A2 l M1 M2 L1 L2 Y s) {N : List D} : Iv xs s.length S2 A1 A2 l N M2 L1 L2 Y ((s ++ [Cell.lst N]).set 46 (.ins 5 (HF 6 s.length))) := by
 have J := I.ex (Ex.one (c := .lst N))
 have a := Bx I.h2.l; have b := Bx I.a1; have c := Bx I.a2; have d := Bx I.p; have e := Bx I.q; have f := Bx I.h1.c
 refine ⟨⟨ie J.h1.c, ax (by omega) cn, J.h1.n.seth J.h1.c⟩, ⟨ax (by decide) J.h2.c, ax (kne J.h2.l J.h1.c (fun z => by cases z)) J.h2.l, J.h2.n.seth J.h1.c⟩, ax (kne J.a1 J.h1.c (fun z => by cases z)) J.a1, ax (kne J.a2 J.h1.c (fun z => by cases z)) J.a2, ax (by decide) J.p, ax (kne J.q J.h1.c (fun z => by cases z)) J.q, ⟨by omega, by omega, by omega, by omega, by omega⟩, I.d2, I.d3, I.d4⟩
theorem Iv.n2 (I : Iv xs S1 S2 A1 A2 l M1 M2 L1 L2 Y s) {N : List D} : Iv xs S1 s.length A1 A2 l M1 N L1 L2 Y ((s ++ [Cell.lst N]).set 93 (.ins 5 (HF 53 s.length))) := by
 have J := I.ex (Ex.one (c := .lst N))
 have a := Bx I.h1.l; have b := Bx I.a1; have c := Bx I.a2; have d := Bx I.p; have e := Bx I.q; have f := Bx I.h2.c
 refine ⟨⟨ax (by decide) J.h1.c, ax (kne J.h1.l J.h2.c (fun z => by cases z)) J.h1.l, J.h1.n.seth J.h2.c⟩, ⟨ie J.h2.c, ax (by omega) cn, J.h2.n.seth J.h2.c⟩, ax (kne J.a1 J.h2.c (fun z => by cases z)) J.a1, ax (kne J.a2 J.h2.c (fun z => by cases z)) J.a2, ax (by decide) J.p, ax (kne J.q J.h2.c (fun z => by cases z)) J.q, ⟨by omega, I.d1.2.1, I.d1.2.2.1, I.d1.2.2.2.1, I.d1.2.2.2.2⟩, ⟨by omega, by omega, by omega, by omega⟩, I.d3, I.d4⟩
theorem Iv.m1 (I : Iv xs S1 S2 A1 A2 l M1 M2 L1 L2 Y s) {N : List D} : Iv xs S1 S2 s.length A2 l M1 M2 N L2 Y (s ++ [Cell.lst N]) := by
 have J := I.ex (Ex.one (c := .lst N))
 have a := Bx I.h1.l; have b := Bx I.h2.l; have c := Bx I.a2; have d := Bx I.p; have e := Bx I.q
 exact ⟨J.h1, J.h2, cn, J.a2, J.p, J.q, ⟨I.d1.1, by omega, I.d1.2.2⟩, ⟨by omega, I.d2.2⟩, ⟨by omega, by omega, by omega⟩, I.d4⟩
theorem Ie {L : List D} (h : ∀ d ∈ L, Sm 3 d) : L.all (okN 39) = true := List.all_eq_true.mpr fun d hd => dh (ame (h d hd)) (by decide)
theorem Lu (hw : okN 1 (W w) = true) (ha : av s a = some [W w, .bl true]) : au s 40 (.loc a) = some (.list [.str (Str.ofString w), .bool true]) := by
 have h : PyData.canLay0 (.str (Str.ofString w)) = true := hw
 simp [au, ha, bw, h]
theorem neB (ha : av s a = some [W "bad", .bl true]) (hb : av s b = some [W "bad", .bl true]) : cmD .ne (.loc a) (.loc b) s = .ok (.bl false) s := by
 simp only [cmD, DD.eqV, Lu (by decide +kernel) ha, Lu (by decide +kernel) hb]
 kernel_rfl
theorem neF (ha : av s a = some [W "few", .bl true]) (hb : av s b = some [W "few", .bl true]) : cmD .ne (.loc a) (.loc b) s = .ok (.bl false) s := by
 simp only [cmD, DD.eqV, Lu (by decide +kernel) ha, Lu (by decide +kernel) hb]
 kernel_rfl
theorem neN : cmD .ne .non .non s = .ok (.bl false) s := by kernel_rfl
theorem amz (g : s[m]? = some (.lst Z)) (hz : Z.getLast? = some d) (h : Q d (s.set m (.lst Z.dropLast))) : Wr (mtD .pop (.loc m) [] s) Q := ⟨_, _, by simp only [mtD, g, hz], h⟩
end
def Gb : Ss → Ss
 | .cons (.forS _ _ _ _ b) _ => b
 | .cons _ r => Gb r
 | .nil => .nil
def thS : Ss → Ss
 | .cons (.ifS _ a _) _ => a
 | _ => .nil
def elS : Ss → Ss
 | .cons (.ifS _ _ b) _ => b
 | _ => .nil
abbrev CC : Or := C 300 29
abbrev En (A1 A2 : Nat) (e5 e6 e7 e8 e9 e10 e11 : Option D) : DD.Env := [some (.loc 0), some (.loc 46), some (.loc 93), some (.loc A1), some (.loc A2), e5, e6, e7, e8, e9, e10, e11]
structure Jn (xs : List D) (A1 A2 l : Nat) (Y : List D) (k : Nat) (s : Sto) : Prop where
 ex : ∃ S1 S2 L1 L2, Iv xs S1 S2 A1 A2 l L1 L2 L1 L2 Y s ∧ L1.length ≤ k ∧ L2.length ≤ k ∧ (∀ d ∈ L1, Sm 3 d) ∧ ∀ d ∈ L2, Sm 3 d
section
variable {xs : List D} {A1 A2 l : Nat} {ys : List Int} {k : Nat} {s : Sto} {c w : Int} {e8 e9 e10 e11 : Option D}
theorem Ow (h : ∀ d ∈ L, Sm 3 d) (hd : Sm 3 d) : ∀ e ∈ L ++ [d], Sm 3 e := fun e he => by
 rcases List.mem_append.mp he with z | z
 · exact h e z
 · rw [List.mem_singleton.mp z]; exact hd
theorem ana (J : Jn xs A1 A2 l (ys.map .int) k s) (hy : ys.length = 3) (hk : k ≤ 70) :
 Wr (Ah tab CC 300 (thS (Gy 2 (Gb du))) (En A1 A2 (some (.int c)) (some (.loc l)) (some (.int w)) e8 e9 e10 e11) s) fun f s' => ∃ e8', f = .next (En A1 A2 (some (.int c)) (some (.loc l)) (some (.int w)) e8' e9 e10 e11) ∧ Jn xs A1 A2 l (ys.map .int) (k + 1) s' := by
 unfold du
 simp only [Gb, Gy, thS, elS]
 obtain ⟨S1, S2, L1, L2, I, n1, n2, g1, g2⟩ := J.ex
 refine ag (Ba (Bb (Aa (Aj (w_var rfl (Ad (dz (by decide) (af ((stmt (FF := 260) (n := 25)).imp ?_)))))))))
 rintro d s1 ⟨Td, E1⟩
 have I1 := I.ex E1
 refine ⟨odt rfl, Ag (ag (bb (As (Bb (Aa (w_var rfl (Aa (w_var rfl (af ((amv (FF := 295) (n := 6) I1.h1 Td (by omega)).imp ?_))))))))))⟩
 rintro e s2 ⟨rfl, s1', E2, rfl⟩
 have I2 := (I1.ex E2).s1 (N := L1 ++ [d])
 refine Ad (acr ⟨_, rfl, ?_⟩)
 rw [decide_eq_true rfl]
 refine Bg (aj (Ag (ag (Bz (Fq (w_var rfl ⟨Hl I2.a1, Aa (w_var rfl (af (Iw I2.a1 (Nat.lt_of_lt_of_le (by omega : L1.length < 4000) (by decide)) ?_)))⟩))))))
 have I3 := I2.b1 (N := L1 ++ [d])
 obtain ⟨y2, e2⟩ := Dl (ys := ys) (i := 2) (by omega) (by omega)
 refine Ag (ag (bb (As (Aj (Ax (w_var rfl (Ad (Bk (Bd I3.q) e2 (Ad (Bq (by decide) (Ad (ck ⟨_, rfl, fun _ => ?_, fun _ => ?_⟩))))))))))))
 · refine ag (Bz (Ep (w_var rfl ⟨93, HF 53 S2, rfl, I3.h2.c, Ou, Aa (w_var rfl (af ((tell (FF := 295) (n := 7) I3.h2 Td (by omega)).imp ?_)))⟩)))
   rintro e s4 ⟨rfl, s3', E4, rfl⟩
   have I4 := (I3.ex E4).s2 (N := L2 ++ [d])
   refine Ag (ag (Bz (Fq (w_var rfl ⟨Hl I4.a2, Aa (w_var rfl (af (Iw I4.a2 (Nat.lt_of_lt_of_le (by omega : L2.length < 4000) (by decide)) ?_)))⟩))))
   exact Ag (aj (Ag (aj ⟨_, rfl, ⟨S1, S2, _, _, I4.b2, by simp; omega, by simp; omega, Ow g1 Td, Ow g2 Td⟩⟩)))
 · exact aj (Ag (aj ⟨_, rfl, ⟨S1, S2, _, _, I3, by simp; omega, by omega, Ow g1 Td, g2⟩⟩))
theorem anb (J : Jn xs A1 A2 l (ys.map .int) k s) (hy : ys.length = 3) :
 Wr (Ah tab CC 300 (thS (elS (Gy 2 (Gb du)))) (En A1 A2 (some (.int c)) (some (.loc l)) (some (.int w)) e8 e9 e10 e11) s) fun f s' => f = .next (En A1 A2 (some (.int c)) (some (.loc l)) (some (.int w)) e8 e9 e10 e11) ∧ Jn xs A1 A2 l (ys.map .int) (k + 1) s' := by
 unfold du
 simp only [Gb, Gy, thS, elS]
 obtain ⟨S1, S2, L1, L2, I, n1, n2, g1, g2⟩ := J.ex
 obtain ⟨y1, e1⟩ := Dl (ys := ys) (i := 1) (by omega) (by omega)
 refine ag (bb (As (Bb (Aa (w_var rfl (Aa (Bb (Aa (Ax (w_var rfl (Ad (Bk (Bd I.q) e1 (af ((odd (FF := 300) (n := 28)).imp ?_))))))))))))))
 rintro d s1 ⟨l1, zs, hd, hl1, E1⟩
 refine af ((amw (FF := 295) (n := 17) (I.ex E1).h1 hd hl1).imp ?_)
 rintro e s2 ⟨l2, rfl, h2, E2⟩
 refine cu (Aa (Ad (Aa (Ad (af ⟨odt rfl, Df (neB (Bd (Ex.one.at h2)) Ce) ⟨_, rfl, Bg (aj (Ag (aj ⟨rfl, ?_⟩)))⟩⟩)))))
 exact ⟨S1, S2, L1, L2, ((I.ex E1).ex E2).ex .one, by omega, by omega, g1, g2⟩
theorem anc {L : List D} {m : Nat} (h : ∀ d ∈ L, Sm 3 d) : ∀ e ∈ L.take m, Sm 3 e := fun e he => h e (List.mem_of_mem_take he)
theorem ane (J : Jn xs A1 A2 l (ys.map .int) k s) (hy : ys.length = 3) (hk : k ≤ 70) :
 Wr (Ah tab CC 300 (elS (elS (Gy 2 (Gb du)))) (En A1 A2 (some (.int c)) (some (.loc l)) (some (.int w)) e8 e9 e10 e11) s) fun f s' => ∃ B1 e9' e10', f = .next (En B1 A2 (some (.int c)) (some (.loc l)) (some (.int w)) e8 e9' e10' e11) ∧ Jn xs B1 A2 l (ys.map .int) (k + 1) s' := by
 unfold du
 simp only [Gb, Gy, thS, elS]
 obtain ⟨S1, S2, L1, L2, I, n1, n2, g1, g2⟩ := J.ex
 obtain ⟨y1, e1⟩ := Dl (ys := ys) (i := 1) (by omega) (by omega)
 obtain ⟨y2, e2⟩ := Dl (ys := ys) (i := 2) (by omega) (by omega)
 refine ag (Ba (Ax (cu (Aa (Aj (Ax (w_var rfl (Ad (Bk (Bd I.q) e1 (Ad (Bq (by decide) ?_)))))))))))
 refine Aa (Aj (Cj (Aa (w_var rfl (af (gm (Bd I.a1) (Aj (Ax (w_var rfl (Ad (Bk (Bd I.q) e1 (Ad (Bq (by decide) (dg ?_))))))))))))))
 refine Aa (Aj (Ax (w_var rfl (Ad (Bk (Bd I.q) e1 (Aj (Cj (Aa (w_var rfl (af (gm (Bd I.a1) (Ad (dg (Bq (by omega) ?_))))))))))))))
 refine Aa (Aj (Ad (Aj (Ax (w_var rfl (Ad (Bk (Bd I.q) e1 (Ad (Bq (by decide) (Dg (af ⟨odt rfl, ?_⟩)))))))))))
 have I1 := I.ex (Ex.one (c := .lst [.int (y1.fmod 4), .int ((L1.length : Int) + y1.fmod 3), .int (y1.fmod ((L1.length : Int) + 1)), .int (0 - y1.fmod 9)]))
 refine Aj (Ax (w_var rfl (Ad (Bk (Bd I1.q) e2 (Ad (Bq (by decide) ?_))))))
 obtain ⟨h0, h1⟩ := Eg (i := y2) (k := 4) (by decide)
 obtain ⟨m, em⟩ := Dl (ys := [y1.fmod 4, (L1.length : Int) + y1.fmod 3, y1.fmod ((L1.length : Int) + 1), 0 - y1.fmod 9]) h0 h1
 refine Bk Ce em ⟨odt rfl, Ag (ag (Ba (Ad ⟨odt rfl, Ag ?_⟩)))⟩
 generalize (s ++ [Cell.lst [.int (y1.fmod 4), .int ((L1.length : Int) + y1.fmod 3), .int (y1.fmod ((L1.length : Int) + 1)), .int (0 - y1.fmod 9)]] : Sto) = s1 at I1 ⊢
 show Wr (Ah tab CC 300 _ (En A1 A2 (some (.int c)) (some (.loc l)) (some (.int w)) e8 (some (.int m)) (some .non) e11) s1) _
 have few : (m < 0 ∨ (L1.length : Int) < m) → Wr (Ah tab CC 300 (.cons (.set 10 (.lstE (.cons (.cst (.str (Str.ofString "few"))) (.cons (.cst (.bl true)) .nil)))) .nil) (En A1 A2 (some (.int c)) (some (.loc l)) (some (.int w)) e8 (some (.int m)) (some .non) e11) s1) (Kt tab CC 300 (.cons (.ifS (.cm .ne (.call 53 (.cons (.var 1) (.cons (.var 9) .nil)) []) (.var 10)) (.cons (.ret (.cst (.bl false))) .nil) .nil) .nil) fun f s' => ∃ B1 e9' e10', f = .next (En B1 A2 (some (.int c)) (some (.loc l)) (some (.int w)) e8 e9' e10' e11) ∧ Jn xs B1 A2 l (ys.map .int) (k + 1) s') := by
  intro hm
  refine ag (Ba (cu (Aa (Ad (Aa (Ad (af ⟨odt rfl, odt rfl, Ag (aj (Ag ?_))⟩)))))))
  have I2 := I1.ex (Ex.one (c := .lst [W "few", .bl true]))
  refine ag (bb (As (Bb (Aa (w_var rfl (Aa (w_var rfl (af ((amy (n := 27) I2.h1 hm).imp ?_)))))))))
  rintro e s2 ⟨l2, rfl, h2, E2⟩
  refine w_var rfl (Df (neF (Bd h2) (Bd (E2.at cn))) ⟨_, rfl, Bg (aj (Ag (aj ⟨A1, _, _, rfl, ?_⟩)))⟩)
  exact ⟨S1, S2, L1, L2, I2.ex E2, by omega, by omega, g1, g2⟩
 refine ag (bb (Cq (As (w_var rfl (Cj (Aa (w_var rfl (af (gm (Bd I1.a1) (Ni ⟨_, rfl, fun z => ⟨fun _ => few (.inr (odt z)), fun z => (by cases z)⟩, fun z1 => ?_⟩))))))))))
 refine As (w_var rfl (Ad (Et ⟨_, rfl, fun z => few (.inl (odt z)), fun z2 => ?_⟩)))
 have z1 := of_decide_eq_false z1
 have z2 := of_decide_eq_false z2
 refine ag (Ba (Hj (w_var rfl (Hi (Aj (Cj (Aa (w_var rfl (af (gm (Bd I1.a1) (w_var rfl (Dg ⟨_, rfl, Hh (Kr rfl (Bd I1.a1) ⟨odt rfl, ?_⟩)⟩))))))))))))
 have ec : cutD L1 none (some ((L1.length : Int) - m)) = L1.take (L1.length - m.toNat) := by
  rw [show (L1.length : Int) - m = ((L1.length - m.toNat : Nat) : Int) by omega]
  exact Oq (by omega)
 rw [ec]
 have I2 := I1.m1 (N := L1.take (L1.length - m.toNat))
 refine Ag (aj (Ag (ag (bb (As (Bb (Aa (w_var rfl (Aa (w_var rfl (af ((amx (n := 27) I2.h1 (by omega) (by omega)).imp ?_))))))))))))
 rintro e s2 ⟨rfl, rfl⟩
 refine w_var rfl (Df neN ⟨_, rfl, Bg (aj (Ag (aj ⟨s1.length, _, _, rfl, ?_⟩)))⟩)
 exact ⟨_, S2, _, L2, I2.n1, by simp; omega, by omega, anc g1, g2⟩
end
section
variable {xs : List D} {A1 A2 l : Nat} {ys : List Int} {k : Nat} {s : Sto} {c w : Int} {e6 e7 e8 e9 e10 e11 : Option D}
theorem Iv.old {S1 S2 : Nat} {M1 M2 L1 L2 Y : List D} (I : Iv xs S1 S2 A1 A2 l M1 M2 L1 L2 Y s) : Iv xs S1 S2 A1 A2 97 M1 M2 L1 L2 xs s :=
 ⟨I.h1, I.h2, I.a1, I.a2, I.p, I.p, ⟨I.d1.1, I.d1.2.1, I.d1.2.2.1, I.d1.2.2.2.1, I.d1.2.2.2.1⟩, ⟨I.d2.1, I.d2.2.1, I.d2.2.2.1, I.d2.2.2.1⟩, ⟨I.d3.1, I.d3.2.1, I.d3.2.1⟩, ⟨I.d4.1, I.d4.1⟩⟩
theorem anf (I : Iv xs S1 S2 A1 A2 l L1 L2 L1 L2 Y s) (n1 : L1.length ≤ k) (n2 : L2.length ≤ k) (g1 : ∀ d ∈ L1, Sm 3 d) (g2 : ∀ d ∈ L2, Sm 3 d) (hT : T = (.cons (.ifS (.cm .ne (.br 5 21 (Str.ofString "told") (.var 2) .nil) (.var 4)) (.cons (.ret (.cst (.bl false))) .nil) .nil) .nil)) :
 Wr (Ah tab CC 300 T (En A1 A2 e5 e6 e7 e8 e9 e10 e11) s) fun f s' => f = .next (En A1 A2 e5 e6 e7 e8 e9 e10 e11) ∧ Jn xs A1 A2 97 xs k s' := by
 subst hT
 refine ag (bb (As (Ep (w_var rfl ⟨93, HF 53 S2, rfl, I.h2.c, ow, af ((told (n := 28) I.h2).imp ?_)⟩))))
 rintro e s6 ⟨rfl, rfl⟩
 refine w_var rfl (Nj Ce (Bd (Ex.one.at I.a2)) (Ie g2) (Ie g2) ⟨_, rfl, ?_⟩)
 rw [decide_eq_true rfl]
 exact Bg (aj (Ag (aj ⟨rfl, ⟨S1, S2, L1, L2, (I.ex .one).old, n1, n2, g1, g2⟩⟩)))
theorem ang (J : Jn xs A1 A2 97 xs k s) (hk : k ≤ 62) : Wr (Ah tab CC 300 (Gb du) (En A1 A2 (some (.int c)) e6 e7 e8 e9 e10 e11) s) fun f s' => ∃ B1 e6' e7' e8' e9' e10' e11', f = .next (En B1 A2 (some (.int c)) e6' e7' e8' e9' e10' e11') ∧ Jn xs B1 A2 97 xs (k + 1) s' := by
 obtain ⟨S1, S2, L1, L2, I, n1, n2, g1, g2⟩ := J.ex
 unfold du
 simp only [Gb]
 refine ag (Ba (Bb (Aa (Aj (w_var rfl (Ad (dz (by decide) (Aa (Ad (af ((stream (FF := 260) (n := 28) (m := 3) (by decide)).imp ?_)))))))))))
 rintro d s1 ⟨l, ys, rfl, hl, hy, hn, E1⟩
 have J1 : Jn xs A1 A2 l (ys.map .int) k s1 := ⟨S1, S2, L1, L2, I.new E1 hl hn, n1, n2, g1, g2⟩
 refine ⟨odt rfl, Ag (ag (Ba (Aj (w_var rfl (Ad (Bq (by decide) ⟨odt rfl, Ag ?_⟩))))))⟩
 generalize c.fmod 8 = w
 show Wr (Ah tab CC 300 _ (En A1 A2 (some (.int c)) (some (.loc l)) (some (.int w)) e8 e9 e10 e11) s1) _
 refine ag ((?_ : Wr _ fun (f : Fl) (s' : Sto) => ∃ B1 e8' e9' e10', f = Fl.next (En B1 A2 (some (.int c)) (some (.loc l)) (some (.int w)) e8' e9' e10' e11) ∧ Jn xs B1 A2 l (ys.map .int) (k + 1) s').imp ?_)
 · refine bb (As (w_var rfl (Ad (Et ⟨_, rfl, fun _ => ?_, fun _ => ?_⟩))))
   · refine (ana J1 hy (by omega)).imp ?_
     rintro f s' ⟨e8', h, j⟩
     exact ⟨A1, e8', _, _, h, j⟩
   · refine ag (bb (As (w_var rfl (Ad (ck ⟨_, rfl, fun _ => ?_, fun _ => ?_⟩)))))
     · refine (anb J1 hy).imp ?_
       rintro f s' ⟨rfl, j⟩
       exact Ag (aj ⟨A1, _, _, _, rfl, j⟩)
     · refine (ane J1 hy (by omega)).imp ?_
       rintro f s' ⟨B1, e9', e10', rfl, j⟩
       exact Ag (aj ⟨B1, _, _, _, rfl, j⟩)
 rintro f s2 ⟨B1, e8', e9', e10', rfl, J2⟩
 clear I n1 n2 g1 g2 J1
 obtain ⟨S1, S2, L1, L2, I, n1, n2, g1, g2⟩ := J2.ex
 refine Ag (ag (Ba (Ep (w_var rfl ⟨46, HF 6 S1, rfl, I.h1.c, ow, af ((told (n := 28) I.h1).imp ?_)⟩))))
 rintro e s3 ⟨rfl, rfl⟩
 have I3 := I.ex (Ex.one (c := .lst L1))
 refine ⟨odt rfl, Ag (ag (bb (Cq (er (Gk (w_var rfl ⟨.b "list", true, Sn Ce, rfl, Kq (As (w_var rfl (w_var rfl (Nj Ce (Bd I3.a1) (Ie g1) (Ie g1) ⟨_, rfl, ?_⟩))))⟩))))))⟩
 rw [decide_eq_true rfl]
 refine Bg (aj (Ag (ag (Bz (Fq (w_var rfl ⟨Hl cn, Aa (az (af ⟨odt rfl, af (Iw cn (Nat.lt_of_lt_of_le (by omega : L1.length < 4000) (by decide)) ?_)⟩))⟩))))))
 rw [Ot]
 have I4 := I.ex (Ex.one (c := .lst (L1 ++ [.tup []])))
 obtain ⟨y1, e1⟩ := Dl (ys := ys) (i := 1) (by omega) (by omega)
 have fin : ∀ {S2 : Nat} {L2 : List D} {s5 : Sto}, Iv xs S1 S2 B1 A2 l L1 L2 L1 L2 (ys.map .int) s5 → L2.length ≤ k + 1 → (∀ d ∈ L2, Sm 3 d) → Wr (Ah tab CC 300 (.cons (.ifS (.cm .ne (.br 5 21 (Str.ofString "told") (.var 2) .nil) (.var 4)) (.cons (.ret (.cst (.bl false))) .nil) .nil) .nil) (En B1 A2 (some (.int c)) (some (.loc l)) (some (.int w)) e8' e9' e10' (some (.loc s2.length))) s5) fun f s' => ∃ B1 e6' e7' e8' e9' e10' e11', f = .next (En B1 A2 (some (.int c)) e6' e7' e8' e9' e10' e11') ∧ Jn xs B1 A2 97 xs (k + 1) s' := fun I h g => (anf I n1 h g1 g rfl).imp fun f s' q => ⟨B1, _, _, _, _, _, _, q.1, q.2⟩
 generalize (s2 ++ [Cell.lst (L1 ++ [D.tup []])] : Sto) = s4 at I4 ⊢
 refine Ag (ag (bb (Jp (As (Aj (Ax (w_var rfl (Ad (Bk (Bd I4.q) e1 (Ad (Bq (by decide) (Ad (ck ⟨_, rfl, fun _ => ?_, fun _ => ⟨fun z => (by cases z), fun _ => aj (Ag (fin I4 n2 g2))⟩⟩)))))))))))))
 refine As (w_var rfl (cu (af ⟨odt rfl, Nj (Bd (Ex.one.at I4.a2)) Ce (Ie g2) rfl ⟨_, rfl, fun z => ?_, fun _ => aj (Ag (fin (I4.ex .one) n2 g2))⟩⟩)))
 have hne : L2 ≠ [] := by
  intro h
  rw [h] at z
  simp at z
 have hp : 0 < L2.length := List.length_pos_iff.mpr hne
 have I5 := I4.ex (Ex.one (c := .lst []))
 refine ag (Bz (Ep (w_var rfl ⟨93, HF 53 S2, rfl, I5.h2.c, Ov, Aa (Ad (af ((back (n := 28) I5.h2 (by decide) (by omega)).imp ?_)))⟩)))
 rintro e s6 ⟨rfl, rfl⟩
 have I6 := I5.n2 (N := L2.take (L2.length - (1 : Int).toNat))
 obtain ⟨d, hd⟩ : ∃ d, L2.getLast? = some d := ⟨_, List.getLast?_eq_some_getLast hne⟩
 refine Ag (ag (Bz (Fq (w_var rfl ⟨Hl I6.a2, af (amz I6.a2 hd ?_)⟩))))
 have I7 := I6.b2 (N := L2.dropLast)
 rw [show L2.take (L2.length - (1 : Int).toNat) = L2.dropLast from (List.dropLast_eq_take).symm] at I7 ⊢
 exact Ag (aj (Ag (fin I7 (by rw [List.length_dropLast]; omega) fun d hd => g2 d ((List.dropLast_sublist L2).subset hd))))
theorem anh (h : d ∈ cutD xs lo hi) : d ∈ xs := List.mem_of_mem_drop (List.mem_of_mem_take h)
theorem ani : (cutD xs none (some 60)).length ≤ 60 := by
 unfold cutD
 rw [HT.pj, show (some (60 : Int)) = some ((60 : Nat) : Int) from rfl, HT.Pj, List.length_take]
 omega
theorem anj {ns : List Int} (h : ns.length ≤ 63) : Wr (Bl tab fns 300 30 54 [.loc 0] [.frz (ns.map D.int)]) fun d _ => d = .bl true := by
 have hint : ∀ d ∈ cutD (ns.map D.int) none (some 60), ∃ c, d = .int c := fun d hd => by
  obtain ⟨c, _, rfl⟩ := List.mem_map.mp (anh hd)
  exact ⟨c, rfl⟩
 have h60 := ani (xs := ns.map D.int)
 generalize ns.map D.int = X at hint h60 ⊢
 generalize hxs : cutD X none (some 60) = xs at hint h60
 have q95 : (ST2 X ++ [Cell.lst []])[95]? = some (.lst []) := by
  have := cn (s := ST2 X) (a := .lst [])
  rwa [oo] at this
 have l96 : (ST2 X ++ [Cell.lst []]).length = 96 := by rw [List.length_append, oo]; rfl
 have q96 : (ST2 X ++ [Cell.lst []] ++ [Cell.lst []])[96]? = some (.lst []) := by
  have := cn (s := ST2 X ++ [Cell.lst []]) (a := .lst [])
  rwa [l96] at this
 have l97 : (ST2 X ++ [Cell.lst []] ++ [Cell.lst []]).length = 97 := by rw [List.length_append, l96]; rfl
 have q97 : (ST2 X ++ [Cell.lst []] ++ [Cell.lst []] ++ [Cell.lst xs])[97]? = some (.lst xs) := by
  have := cn (s := ST2 X ++ [Cell.lst []] ++ [Cell.lst []]) (a := .lst xs)
  rwa [l97] at this
 have EE : Ex (ST2 X) (ST2 X ++ [Cell.lst []] ++ [Cell.lst []] ++ [Cell.lst xs]) := (Ex.one.trans .one).trans .one
 have I : Iv xs 47 94 95 96 97 [] [] [] [] xs (ST2 X ++ [Cell.lst []] ++ [Cell.lst []] ++ [Cell.lst xs]) :=
  ⟨⟨EE.at akw, EE.at akx, ⟨EE.at akq, EE.at akr, EE.at aks⟩⟩, ⟨EE.at aky, EE.at akz, ⟨EE.at akt, EE.at aku, EE.at akv⟩⟩, (Ex.one.trans Ex.one).at q95, Ex.one.at q96, q97, q97, by decide, by decide, by decide, by decide⟩
 have F0 : av (ST2 X ++ [Cell.lst []] ++ [Cell.lst []]) 0 = some X := by
  have : (ST2 X ++ [Cell.lst []] ++ [Cell.lst []])[0]? = some (.frz X) := (Ex.one.trans Ex.one).at akp
  simp only [av, this]
 refine Bi [some (.loc 0), none, none, none, none, none, none, none, none, none, none, none] (b := du) rfl rfl (by decide) rfl ?_
 unfold du
 refine ag (Ba (Df (mk1 (FF := 300) (n := 17)) ⟨odt rfl, Ag (ag (Ba (Df (mk2 (FF := 300) (n := 17)) ⟨odt rfl, Ag ?_⟩)))⟩))
 refine ag (Ba (cu (af ⟨odt rfl, odt rfl, Ag ?_⟩)))
 rw [oo]
 refine ag (Ba (cu (af ⟨odt rfl, odt rfl, Ag ?_⟩)))
 rw [l96]
 refine ag (sk (Hj (w_var rfl (Hi (Ad ⟨60, rfl, Hh (Kr rfl F0 ?_)⟩)))))
 rw [l97, hxs]
 refine ⟨xs, some 97, ?_, ?_⟩
 · simp only [gh, Bool.false_eq_true, if_false, Bd q97]; rfl
 refine Nh (fun j env s => ∃ B1 e5 e6 e7 e8 e9 e10 e11, env = En B1 96 e5 e6 e7 e8 e9 e10 e11 ∧ Jn xs B1 96 97 xs j s) (fun i env s h => ?_) ⟨95, none, none, none, none, none, none, none, rfl, ⟨47, 94, [], [], I, by simp, by simp, by simp, by simp⟩⟩ ?_ ?_
 · obtain ⟨B1, e5, e6, e7, e8, e9, e10, e11, rfl, J⟩ := h
   obtain ⟨_, _, _, _, I, _⟩ := J.ex
   exact decide_eq_true (Bd I.p)
 · rintro j d hd env s ⟨B1, e5, e6, e7, e8, e9, e10, e11, rfl, J⟩
   obtain ⟨c, rfl⟩ := hint d (List.mem_of_getElem? hd)
   have hj := (List.getElem?_eq_some_iff.mp hd).1
   refine nh (env' := En B1 96 (some (.int c)) e6 e7 e8 e9 e10 e11) rfl ?_
   refine (ang J (by omega)).imp ?_
   rintro f s' ⟨B1, e6', e7', e8', e9', e10', e11', rfl, J'⟩
   exact ⟨_, rfl, B1, _, _, _, _, _, _, _, rfl, J'⟩
 · rintro env s ⟨B1, e5, e6, e7, e8, e9, e10, e11, rfl, J⟩
   obtain ⟨S1, S2, L1, L2, I, _, _, g1, _⟩ := J.ex
   refine Ag (ag (bf (ack (Ep (w_var rfl ⟨46, HF 6 S1, rfl, I.h1.c, ow, af ((told (n := 28) I.h1).imp ?_)⟩)))))
   rintro e s6 ⟨rfl, rfl⟩
   refine w_var rfl (acs Ce (Bd (Ex.one.at I.a1)) (Ie g1) (Ie g1) ?_)
   rw [decide_eq_true rfl]
   rfl
end
abbrev calls : Nat := 30
theorem ank : ∀ ns : List Int, ns.length ≤ 63 → ∃ FF st, Om FF calls [.loc 0] [.frz (ns.map D.int)] = .ok (.bl true) st := fun ns h => by
 obtain ⟨d, s, e, rfl⟩ := anj h
 exact ⟨300, s, e⟩
end My
open PySem PySem.W PyProof.Rows
set_option maxRecDepth 100000 in
set_option maxHeartbeats 0 in
theorem PySem.Challenge.cw_partproof_k81_told_and_taken_back_holds : PySem.Challenge.rw_partproof_k81_told_and_taken_back.Holds := by
 refine holds_law (by kernel_rfl) fun said => holds_open (XP := XL HD.q []) (YP := InK HD.Kf) HD.hl HD.H.of HD.H.keeps (fun s e => xl_of s (Bool.and_eq_true_iff.mp e).1) XL.keeps (by rfl) (by rfl) (by rfl) (fun s e => recFacts_of (Bool.and_eq_true_iff.mp e).2) (by rfl) said (by decide +kernel) ⟨rfl, rfl, rfl, rfl, rfl, by decide +kernel⟩ ?hw ?hc
 case hw => w_witness2
 k_fill
 refine My.walk (n := My.calls) (l := PySem.Challenge.rw_partproof_k81_told_and_taken_back) rfl rfl rfl ⟨rfl, by decide, by decide⟩ (fun _ _ Y => Y) ?lawTop ?lawEnd
 case lawTop =>
  intro w mg h KX G
  refine' My.akl w KX G ?_ ?_ ?_ ?_ ?_ ?_ ?_ ?_ ?_ ?_ ?_ ?_ ?_ ?_ ?_ ?_ ?_ ?_ ?_ ?_ ?_ ?_ ?_ ?_ ?_ ?_ ?_ ?_ ?_ ?_ ?_ ?_ ?_ ?_ ?_ ?_ ?_ ?_ ?_ ?_ ?_ ?_ ?_ ?_ ?_ ?_ ?_ ?_ ?_ ?_ ?_ ?_ ?_ ?_ ?_ ?_ ?_ ?_ ?_ ?_ ?_ ?_ ?_ ?_ ?_ ?_ ?_ ?_ ?_ ?_ ?_ ?_ ?_ ?_ ?_ ?_ ?_ ?_ ?_ ?_ ?_ ?_ ?_ ?_ ?_ ?_ ?_ ?_ ?_ ?_ ?_ ?_ ?_ ?_ ?_ ?_ ?_ ?_ ?_ ?_ ?_ ?_ ?_ ?_ ?_ ?_ ?_ ?_ ?_ ?_ ?_ ?_ ?_ ?_ ?_ ?_ ?_ ?_ ?_ ?_ ?_ ?_ ?_ ?_ ?_ ?_ ?_ ?_ ?_ ?_ ?_ ?_ ?_ ?_ ?_ ?_ ?_ ?_ ?_ ?_ ?_ ?_ ?_ ?_ ?_ ?_ ?_ ?_ ?_ ?_ ?_ ?_ ?_ ?_ ?_ ?_ ?_ ?_ ?_ ?_ ?_ ?_ ?_ ?_ ?_ ?_ ?_ ?_ ?_ ?_ ?_ ?_ ?_ ?_ ?_ ?_ ?_ ?_ ?_ ?_ ?_ ?_ ?_ ?_ ?_ ?_ ?_ ?_ ?_ ?_ ?_ ?_ ?_ ?_ ?_ ?_ ?_ ?_ ?_ ?_ ?_ ?_ ?_ ?_ ?_ ?_ ?_ ?_ ?_ ?_ ?_ ?_ ?_ ?_ ?_ ?_ ?_ ?_ ?_ ?_ ?_ ?_ ?_ ?_ ?_ ?_ ?_ ?_ ?_ ?_ ?_ ?_ ?_ ?_ ?_ ?_ ?_ ?_ ?_ ?_ ?_ ?_ ?_ ?_ ?_ ?_ ?_ ?_ ?_ ?_ ?_ ?_ ?_ ?_ ?_ ?_ ?_ ?_ ?_ ?_ ?_ ?_ ?_ ?_ ?_ ?_ ?_ ?_ ?_ ?_ ?_ ?_ ?_ ?_ ?_ ?_ ?_ ?_ ?_ ?_ ?_ ?_ ?_ ?_ ?_ ?_ ?_ ?_ ?_ ?_ ?_ ?_ ?_ ?_ ?_ ?_
  any_goals k_is
  any_goals first | k_exc | kit_is | kts_exm | rfl
 case lawEnd => exact My.ank
