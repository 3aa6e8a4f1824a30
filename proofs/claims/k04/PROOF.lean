import PyProof.Rows.All
import Wide.All
import OpenK.AllK
import Wide.FinOn
import Lean
import PyProof.EqAt
import PyProof.EqKinds
import PyProof.TupleCall
import PyProof.NsDelKeeps
import PyProof.DictWalks
import KE.KEqDict
import KE.KDictLaws
import KE.KDictList
import PyProof.Rows.SetFrom
import PyProof.WalksEnum
import PyProof.LayNew
import PyProof.Rows.EnumRows
import PyProof.DictItems
import PyProof.Rows.ZipGen
import KE.KTab
import Wide.Seal
import PySem.Challenge.RW_partproof_k04_kinds_of_terms
set_option Elab.async false
set_option linter.all false
set_option maxRecDepth 100000
set_option maxHeartbeats 4000000
noncomputable section
namespace HD
open PySem PySem.W PyProof.Rows
def go (ok : Thread → Bool) (st : SharedT → Thread → Option (SharedT × Thread)) (n : Nat) : SharedT → Thread → Option SharedT :=
 Nat.rec (fun _ _ => none) (fun _ ih s t => match through t with
  | true => some s
  | false => match ok t with
   | false => none
   | true => match st s t with
    | some (s, t) => ih s t
    | none => none) n
theorem gr {tb p w a b} : ∀ (n : Nat) (s t s'), go (stepOk a b) (stepT (denote tb) p w) n s t = some s' → topRun tb p w a b n s.abs t = some s'.abs
 | 0, _, _, _, h => by cases h
 | n + 1, s, t, s', h => by
  have h : (match through t with
   | true => some s
   | false => match stepOk a b t with
    | false => none
    | true => match stepT (denote tb) p w s t with
     | some (s, t) => go (stepOk a b) (stepT (denote tb) p w) n s t
     | none => none) = some s' := h
  unfold topRun
  revert h
  cases through t with
  | true => intro h; cases h; rfl
  | false => cases stepOk a b t with
   | false => intro h; cases h
   | true =>
    dsimp only
    cases e : stepT (denote tb) p w s t with
    | none => intro h; cases h
    | some r => intro h; rw [stepT_spec e]; exact gr n r.1 r.2 s' h
def S0 (w : World) (os : OsState) : SharedT := ⟨(boot_heap w.params).objs.toList.zipIdx.foldl (fun t x => t.ins x.2 x.1) .nil, 11, (boot_heap w.params).life, #[], boot_drawn, boot_toks, os⟩
theorem s0 (w os) : (S0 w os).abs = ⟨boot_heap w.params, #[], boot_drawn, boot_toks, os⟩ := by kernel_rfl
theorem bs (w : World) : ((boot_heap w.params).isNs mainGlobals && (#[] : Array GenState).size == 0, (boot_heap w.params).objs.size, (boot_heap w.params).nsMap mainGlobals "__annotations__") = (true, 11, some (.ref 6)) := by kernel_rfl
abbrev run (p : Program) (N : Nat) (w : World) (os : OsState) := go (Fast.tw6613529449190102663 11 (some (.ref 6))) (Fast.tw10156331382660048174 (Fast.tw11892475500146522536 Fast.tw14364793385576792824) p w) N (S0 w os) (topStub p)
abbrev Is {α : Type} (p : Program) (N : Nat) (w : World) (f : Shared → α) (a : α) : Prop := ∀ os, (run p N w os).map (fun s => f s.abs) = some a
abbrev Ends (p : Program) (w : World) (s : Shared) := staticsOk (importedModules p.main.body) (boot_heap w.params) s.heap && namesBound p s.heap && gensDone s && laidKept (boot_heap w.params) s.heap
theorem left {α : Type} {p q loose Xt N} {Yf : Shared → α} {Ya} (e : opening p = plainProg p.main.scope.names) (hN : Nat.ble 600 N = true) (f : ∀ s, fenceModules? p s = some s)
  (h1 : ∀ w, Is p N w (Ends p w) true) (h2 : ∀ w, Is p N w (Fast.tw4187177175401517315 q loose (importedModules p.main.body) Xt true) (openGood q loose)) (h3 : ∀ w, Is p N w Yf (Ya w)) : LeftO p q loose Xt Yf Ya N := fun w => by
 obtain ⟨⟨hp, gs, d, k, os⟩, e1, e2⟩ := Option.map_eq_some_iff.mp (boot_open e hN f w)
 obtain ⟨rfl, rfl, rfl, rfl⟩ : hp = boot_heap w.params ∧ gs = #[] ∧ d = boot_drawn ∧ k = boot_toks := by simpa using e2
 obtain ⟨z1, z2, z3⟩ : _ ∧ _ ∧ _ := by simpa only [Prod.mk.injEq] using bs w
 obtain ⟨s, g, l1⟩ := Option.map_eq_some_iff.mp (h1 w os)
 have l2 := h2 w os
 have l3 := h3 w os
 rw [g] at l2 l3
 replace l2 := Option.some.inj l2
 rw [← Fast.te4187177175401517315] at l2
 unfold run at g
 rw [← Fast.te6613529449190102663, ← Fast.te10156331382660048174, ← Fast.te11892475500146522536, ← Fast.te14364793385576792824] at g
 have r := gr _ _ _ _ g
 rw [s0] at r
 unfold openEnds
 rw [e1]
 show Option.map _ (topFrom treeTable p w N _) = _
 have t : topFrom treeTable p w N ⟨boot_heap w.params, #[], boot_drawn, boot_toks, os⟩ = some s.abs := by
  unfold topFrom
  dsimp only
  rw [z1, z2, z3, r]
  show (match Ends p w s.abs with | true => _ | false => _) = _
  rw [l1]
 rw [t]
 exact congrArg some (congr (congrArg Prod.mk l2) (Option.some.inj l3))
abbrev pw := PySem.Challenge.pw_partproof_k04_kinds_of_terms
abbrev r := Value.ref
abbrev y := Value.type
abbrev z (x : String) (t : Nat) : Value := .str (.ofString x) t
abbrev n (i : Int) (t : Nat) : Value := .int i t
abbrev J := List (Str × Nat × Value)
def D (P : Params) (k : Nat) (l : J) : Obj := ⟨y "dict", none, .dict (l.map fun x => ⟨PyData.keyHash P x.1, .str x.1 x.2.1, x.2.2⟩).toArray k, #[]⟩
def j (v : Value) (l : J) : J := ([("__name__", 165, v), ("__doc__", 166, .none), ("__package__", 167, .none), ("__loader__", 168, .builtin "__main__.__loader__#opaque"), ("__spec__", 169, .none), ("__annotations__", 170, r 6), ("__builtins__", 171, r 4), ("__file__", 173, z "/claim/cut.py" 172), ("__cached__", 174, .none)] : J) ++ l
def v (x : String) (t : Nat) (w : Value) : Str × Nat × Value := (.ofString x, t, w)
def g (i : Nat) : Stmt := pw.main.body.getD i (.Pass ⟨0, 0, 0, 0⟩)
def G (i j : Nat) : Stmt := match g i with
 | .ClassDef _ _ _ b _ _ _ _ _ _ _ => b.getD j (.Pass ⟨0, 0, 0, 0⟩)
 | s => s
def C (s : Stmt) (q : Str → Str) (a t u : Nat) (l : List Value) : Obj := match s with
 | .FunctionDef x p _ _ _ _ _ _ _ h => ⟨y "code", none, .fields ([.str x t, .str (q x) (t + 1), z "/claim/cut.py" (t + 2), n h.line 0, n p.args.length 0, n 0 0, n 0 0, n 3 0, r a, .bool true, n 181 0, r (a + 1), .none] ++ l ++ [n u 0, n h.line 0, z "/claim/cut.py" (u + 1)]).toArray, #[]⟩
 | _ => default
def F (s : Stmt) (q : Str → Str) (k : Nat) (m v : Value) : Obj := match s with
 | .FunctionDef x p b _ _ _ c _ _ _ => ⟨y "function", none, .func (fnOf x (q x) p b c v .none .none m none (r k) .none), #[]⟩
 | _ => default
def c (i a t u : Nat) : Obj := C (g i) id a t u [r (a + 2), r (a + 3), r (a + 4)]
def b (i a t u : Nat) : Obj := C (g i) id a t u [.none, .none, r (a + 2)]
def f (i k : Nat) (m : Value) (v := Value.none) : Obj := F (g i) id k m v
def t (l : List Value) : Obj := ⟨y "tuple", none, .seq l.toArray 0, #[]⟩
def X (x q : String) (b m : List Value) (k : Addr) (s : List Value) (l : List (Option Value)) : Obj := ⟨y "type", none, .cls { name := .ofString x, bases := b, mro := m, ns := k, qualname := .ofString q, subclasses := s }, l.toArray⟩
def d (P : Params) (a t l : Nat) (m : Value) : Obj := D P 2 [("__module__", t + 7, m), ("__firstlineno__", t + 11, n l (t + 10)), ("__static_attributes__", t + 12, r (a + 7)), ("__doc__", t + 13, .none)]
def E (x : String) (b : Addr) (a t : Nat) (s : List Value := []) : Obj := X x x [r b] ([r (a + 9), r b, y "ValueError", y "Exception", y "BaseException", y "object"]) (a + 8) s [some (r a), none, some (z x t), some (z x (t + 8)), some (.builtin "ValueError.__new__"), some (.bool true)]
def m0 := z "__main__" 164
def m1 := z "partproof.errors" 194
def m2 := z "partproof.fractions" 326
def m3 := z "partproof.terms" 352
def m4 := z "partproof.names" 498
def m5 := z "law_partproof_k04_kinds_of_terms" 674
def Kf (P : Params) : Frag := (nat_lit 3,D P 65 (j m5 [v "_wall" 193 (r 21),v "PartError" 213 (r 31),v "BadNames" 229 (r 44),v "BadTerm" 245 (r 56),v "BadStatement" 261 (r 68),v "NotTold" 277 (r 80),v "NoText" 293 (r 92),v "NoRow" 309 (r 104),v "NoNumber" 325 (r 116),v "is_whole" 334 (r 125),v "is_fraction" 343 (r 132),v "common_divisor" 351 (r 139),v "DEEPEST" 355 (n 12 354),v "LENGTHS" 377 (r 140),v "word_of" 384 (r 147),v "kind_of" 392 (r 154),v "kind_within" 403 (r 161),v "check_kinds" 415 (r 168),v "kind_of_number" 424 (r 175),v "kind_of_unknown" 434 (r 182),v "kind_of_weigh" 443 (r 189),v "kind_of_plus" 452 (r 196),v "kind_of_call" 464 (r 203),v "kind_of_read" 473 (r 210),v "kind_of_put" 482 (r 217),v "DEEDS" 497 (r 218),v "LETTERS" 501 (z "abcdefghijklmnopqrstuvwxyz" 500),v "LONGEST_NAME" 503 (n 8 502),v "WIDEST_BOUNDS" 505 (n 60 504),v "MOST_VALUES" 507 (n 3600 506),v "MOST_KINDS" 509 (n 3 508),v "is_name" 515 (r 223),v "is_row" 522 (r 230),v "is_kind" 529 (r 237),v "is_list_of_names" 535 (r 242),v "is_bounded" 542 (r 249),v "is_function" 548 (r 254),v "check_wholes" 554 (r 259),v "check_functions" 560 (r 264),v "check_names" 567 (r 271),v "first_parts" 573 (r 276),v "check_unlike" 580 (r 283),v "Names" 673 (r 354),v "_law_cell_at" 683 (r 365),v "_law_digits" 693 (r 372),v "_law_house" 700 (r 379),v "_law_thing" 713 (r 386),v "_law_array" 725 (r 393),v "_law_fraction" 733 (r 400),v "_law_num" 750 (r 407),v "_law_refused" 760 (r 414),v "_law_wrong" 772 (r 421),v "_law_round" 782 (r 428),v "_law_deep" 792 (r 435),v "_law_depth_right" 802 (r 442),v "law" 817 (r 449)]))::(nat_lit 43,d P 35 214 7 m1)::(nat_lit 44,E "BadNames" 31 35 214)::(nat_lit 55,d P 47 230 9 m1)::(nat_lit 56,E "BadTerm" 31 47 230)::(nat_lit 67,d P 59 246 11 m1)::(nat_lit 68,E "BadStatement" 31 59 246)::(nat_lit 79,d P 71 262 13 m1)::(nat_lit 80,E "NotTold" 31 71 262)::(nat_lit 91,d P 83 278 15 m1)::(nat_lit 92,E "NoText" 31 83 278)::(nat_lit 103,d P 95 294 17 m1)::(nat_lit 104,E "NoRow" 31 95 294)::(nat_lit 115,d P 107 310 19 m1)::(nat_lit 116,E "NoNumber" 31 107 310)::(nat_lit 20,c 0 15 187 191)::(nat_lit 21,f 0 20 m0)::(nat_lit 30,D P 3 [v "__module__" 203 (z "partproof.errors" 194),v "__firstlineno__" 207 (n 5 206),v "__static_attributes__" 208 (r 29),v "__weakref__" 210 (r 32),v "__doc__" 211 .none])::(nat_lit 31,X "PartError" "PartError" [(y "ValueError")] [(r 31),(y "ValueError"),(y "Exception"),(y "BaseException"),(y "object")] 30 [(r 44),(r 56),(r 68),(r 80),(r 92),(r 104),(r 116)] [some (r 22),none,some (z "PartError" 196),some (z "PartError" 204),some (.builtin "ValueError.__new__"),some (.bool true)])::(nat_lit 124,c 11 119 328 332)::(nat_lit 125,f 11 124 m2)::(nat_lit 131,c 12 126 335 341)::(nat_lit 132,f 12 131 m2)::(nat_lit 138,c 13 133 344 349)::(nat_lit 139,f 13 138 m2)::(nat_lit 140,D P 7 [v "number" 356 (n 2 357),v "unknown" 358 (n 2 359),v "weigh" 360 (n 3 361),v "plus" 362 (n 2 363),v "call" 364 (n 3 365),v "read" 366 (n 3 367),v "put" 368 (n 4 369)])::(nat_lit 146,c 17 141 378 382)::(nat_lit 147,f 17 146 m3)::(nat_lit 153,c 18 148 385 390)::(nat_lit 154,f 18 153 m3)::(nat_lit 160,c 19 155 393 401)::(nat_lit 161,f 19 160 m3)::(nat_lit 167,c 20 162 404 413)::(nat_lit 168,f 20 167 m3)::(nat_lit 174,c 21 169 416 422)::(nat_lit 175,f 21 174 m3)::(nat_lit 181,c 22 176 425 432)::(nat_lit 182,f 22 181 m3)::(nat_lit 188,c 23 183 435 441)::(nat_lit 189,f 23 188 m3)::(nat_lit 195,c 24 190 444 450)::(nat_lit 196,f 24 195 m3)::(nat_lit 202,c 25 197 453 462)::(nat_lit 203,f 25 202 m3)::(nat_lit 209,c 26 204 465 471)::(nat_lit 210,f 26 209 m3)::(nat_lit 216,c 27 211 474 480)::(nat_lit 217,f 27 216 m3)::(nat_lit 218,D P 7 [v "number" 483 (r 175),v "unknown" 484 (r 182),v "weigh" 485 (r 189),v "plus" 486 (r 196),v "call" 487 (r 203),v "read" 488 (r 210),v "put" 489 (r 217)])::(nat_lit 222,b 35 219 510 513)::(nat_lit 223,f 35 222 m4)::(nat_lit 229,c 36 224 516 520)::(nat_lit 230,f 36 229 m4)::(nat_lit 236,c 37 231 523 527)::(nat_lit 237,f 37 236 m4)::(nat_lit 241,b 38 238 530 533)::(nat_lit 242,f 38 241 m4)::(nat_lit 248,c 39 243 536 540)::(nat_lit 249,f 39 248 m4)::(nat_lit 253,b 40 250 543 546)::(nat_lit 254,f 40 253 m4)::(nat_lit 258,b 41 255 549 552)::(nat_lit 259,f 41 258 m4)::(nat_lit 263,b 42 260 555 558)::(nat_lit 264,f 42 263 m4)::(nat_lit 270,c 43 265 561 565)::(nat_lit 271,f 43 270 m4)::(nat_lit 275,b 44 272 568 571)::(nat_lit 276,f 44 275 m4)::(nat_lit 282,c 45 277 574 578)::(nat_lit 283,f 45 282 m4)::(nat_lit 294,C (G 46 0) (fun _ => "Names.__init__") 291 593 596 [.none,.none,r 293])::(nat_lit 295,F (G 46 0) (fun _ => "Names.__init__") 294 m4 .none)::(nat_lit 301,C (G 46 1) (fun _ => "Names.all_numbers") 296 599 603 [r 298,r 299,r 300])::(nat_lit 302,F (G 46 1) (fun _ => "Names.all_numbers") 301 m4 .none)::(nat_lit 308,C (G 46 2) (fun _ => "Names.all_wholes") 303 606 610 [r 305,r 306,r 307])::(nat_lit 309,F (G 46 2) (fun _ => "Names.all_wholes") 308 m4 .none)::(nat_lit 315,C (G 46 3) (fun _ => "Names.all_things") 310 613 617 [r 312,r 313,r 314])::(nat_lit 316,F (G 46 3) (fun _ => "Names.all_things") 315 m4 .none)::(nat_lit 322,C (G 46 4) (fun _ => "Names.all_functions") 317 620 624 [r 319,r 320,r 321])::(nat_lit 323,F (G 46 4) (fun _ => "Names.all_functions") 322 m4 .none)::(nat_lit 329,C (G 46 5) (fun _ => "Names.all_arrays") 324 627 631 [r 326,r 327,r 328])::(nat_lit 330,F (G 46 5) (fun _ => "Names.all_arrays") 329 m4 .none)::(nat_lit 336,C (G 46 6) (fun _ => "Names.kind") 331 634 639 [r 333,r 334,r 335])::(nat_lit 337,F (G 46 6) (fun _ => "Names.kind") 336 m4 .none)::(nat_lit 343,C (G 46 7) (fun _ => "Names.bounds") 338 642 647 [r 340,r 341,r 342])::(nat_lit 344,F (G 46 7) (fun _ => "Names.bounds") 343 m4 .none)::(nat_lit 350,C (G 46 8) (fun _ => "Names.function") 345 650 655 [r 347,r 348,r 349])::(nat_lit 351,F (G 46 8) (fun _ => "Names.function") 350 m4 .none)::(nat_lit 353,D P 4 [v "__module__" 588 (z "partproof.names" 498),v "__firstlineno__" 592 (n 133 591),v "__init__" 598 (r 295),v "all_numbers" 605 (r 302),v "all_wholes" 612 (r 309),v "all_things" 619 (r 316),v "all_functions" 626 (r 323),v "all_arrays" 633 (r 330),v "kind" 641 (r 337),v "bounds" 649 (r 344),v "function" 657 (r 351),v "__static_attributes__" 666 (r 352),v "__dict__" 668 (r 355),v "__weakref__" 670 (r 356),v "__doc__" 671 .none])::(nat_lit 354,X "Names" "Names" [(y "object")] [(r 354),(y "object")] 353 [] [none,none,some (z "Names" 581),some (z "Names" 589),some (.builtin "object.__new__"),some (.bool true)])::(nat_lit 364,c 48 359 676 681)::(nat_lit 365,f 48 364 m5)::(nat_lit 371,c 49 366 684 691)::(nat_lit 372,f 49 371 m5)::(nat_lit 378,c 50 373 694 698)::(nat_lit 379,f 50 378 m5)::(nat_lit 385,c 51 380 701 711)::(nat_lit 386,f 51 385 m5)::(nat_lit 392,c 52 387 714 723)::(nat_lit 393,f 52 392 m5)::(nat_lit 399,c 53 394 726 731)::(nat_lit 400,f 53 399 m5)::(nat_lit 406,c 54 401 734 748)::(nat_lit 407,f 54 406 m5)::(nat_lit 413,c 55 408 751 758)::(nat_lit 414,f 55 413 m5)::(nat_lit 420,c 56 415 761 770)::(nat_lit 421,f 56 420 m5)::(nat_lit 427,c 57 422 773 780)::(nat_lit 428,f 57 427 m5)::(nat_lit 434,c 58 429 783 790)::(nat_lit 435,f 58 434 m5)::(nat_lit 441,c 59 436 793 800)::(nat_lit 442,f 59 441 m5)::(nat_lit 448,c 60 443 803 815)::(nat_lit 449,f 60 448 m5)::[]
abbrev as : List Addr := [3,43,44,55,56,67,68,79,80,91,92,103,104,115,116,20,21,30,31,124,125,131,132,138,139,140,146,147,153,154,160,161,167,168,174,175,181,182,188,189,195,196,202,203,209,210,216,217,218,222,223,229,230,236,237,241,242,248,249,253,254,258,259,263,264,270,271,275,276,282,283,294,295,301,302,308,309,315,316,322,323,329,330,336,337,343,344,350,351,353,354,364,365,371,372,378,379,385,386,392,393,399,400,406,407,413,414,420,421,427,428,434,435,441,442,448,449]
def q : Program := view pw ((List.range 61).filter fun i => ![1,10,14,29,47].contains i)
abbrev lo : List Str := ["LENGTHS","DEEDS"]
abbrev H : Hook := kHook Kf as fun _ => by kernel_rfl
abbrev Xt (s : Shared) := xlAt q [] s && recOk (RowW.records PySem.Challenge.rw_partproof_k04_kinds_of_terms.row.toRowW) s
abbrev k1 (w : World) := Is pw 3747 w (Ends pw w) true
abbrev k2 (w : World) := Is pw 3747 w (Fast.tw4187177175401517315 q lo (importedModules pw.main.body) Xt true) (openGood q lo)
abbrev k3 (w : World) := Is pw 3747 w H.obs (H.val w)
abbrev W (b : Bool) (w : World) := w.withFollow "special-get-raises" b
theorem k1t (w : World) : k1 (W true w) := fun _ => by kernel_rfl
theorem k1f (w : World) : k1 (W false w) := fun _ => by kernel_rfl
theorem k2t (w : World) : k2 (W true w) := fun _ => by kernel_rfl
theorem k2f (w : World) : k2 (W false w) := fun _ => by kernel_rfl
theorem k3t (w : World) : k3 (W true w) := fun _ => by kernel_rfl
theorem k3f (w : World) : k3 (W false w) := fun _ => by kernel_rfl
theorem hl : LeftO pw q lo Xt H.obs H.val 3747 := left (by kernel_rfl) (by decide) (fun s => by kernel_rfl) (byRow2 (P := k1) "special-get-raises" k1f k1t) (byRow2 (P := k2) "special-get-raises" k2f k2t) (byRow2 (P := k3) "special-get-raises" k3f k3t)
end HD
end
noncomputable section
namespace L2
open PySem PySem.Spec PyProof.Rows
abbrev Key := Sum Int Str
def Hq : Key → Value → Bool
 | .inl k, v => Value.isInt k v
 | .inr x, v => Value.isStrOf x v
def Tx (w : World) : Key → Int
 | .inl k => hashInt k
 | .inr x => hashStr w x
theorem fc : ∀ {k : Key} {v : Value}, Hq k v = true → (∃ i t, k = Sum.inl i ∧ v = Value.int i t) ∨ (∃ x t, k = Sum.inr x ∧ v = Value.str x t)
 | .inl i, v, h => by
  obtain ⟨t, e⟩ := Value.isInt_shape (k := i) (v := v) h
  exact .inl ⟨i, t, rfl, e⟩
 | .inr x, v, h => by
  obtain ⟨t, e⟩ := Value.isStrOf_shape (x := x) (v := v) h
  exact .inr ⟨x, t, rfl, e⟩
theorem Tz (i : Int) (t : Tok) : Hq (.inl i) (.int i t) = true := by simp [Hq, Value.isInt]
theorem ua (x : Str) (t : Tok) : Hq (.inr x) (.str x t) = true := by simp [Hq, Value.isStrOf]
theorem Ua (a b : Int) : decide ((Sum.inl a : Key) = Sum.inl b) = (a == b) := by
 by_cases e : a = b
 · subst e; simp
 · have h : ¬ (Sum.inl a : Key) = Sum.inl b := fun q => e (Sum.inl.inj q)
   rw [decide_eq_false h]
   exact (beq_eq_false_iff_ne.mpr e).symm
theorem ub (a b : Str) : decide ((Sum.inr a : Key) = Sum.inr b) = decide (a = b) := by
 by_cases e : a = b
 · subst e; simp
 · have h : ¬ (Sum.inr a : Key) = Sum.inr b := fun q => e (Sum.inr.inj q)
   rw [decide_eq_false h, decide_eq_false e]
theorem Ub (a : Int) (b : Str) : decide ((Sum.inl a : Key) = Sum.inr b) = false := decide_eq_false (fun q => nomatch q)
theorem uc (a : Str) (b : Int) : decide ((Sum.inr a : Key) = Sum.inl b) = false := decide_eq_false (fun q => nomatch q)
def cp (prog : Program) (w : World) : PySem.KeyKind prog w Key where
 is := Hq
 hash := Tx w
 inj := fun v a b ha hb => by
  rcases fc ha with ⟨i, t, rfl, rfl⟩ | ⟨x, t, rfl, rfl⟩
  · rcases fc hb with ⟨j, u, rfl, e⟩ | ⟨y, u, rfl, e⟩
    · injection e with e1 _; rw [e1]
    · exact nomatch e
  · rcases fc hb with ⟨j, u, rfl, e⟩ | ⟨y, u, rfl, e⟩
    · exact nomatch e
    · injection e with e1 _; rw [e1]
 byValue := fun k v h => by
  rcases fc h with ⟨i, t, rfl, rfl⟩ | ⟨x, t, rfl, rfl⟩ <;> rfl
 pyHash := fun hv h => by
  rcases fc hv with ⟨i, t, rfl, rfl⟩ | ⟨x, t, rfl, rfl⟩
  · exact wpAny_pyHash_int h
  · exact wpAny_pyHash_str h
 eqBool := fun hu hv h => by
  rcases fc hu with ⟨i, t, rfl, rfl⟩ | ⟨x, t, rfl, rfl⟩
  · rcases fc hv with ⟨j, u, rfl, rfl⟩ | ⟨y, u, rfl, rfl⟩
    · rw [Ua] at h; exact wpAny_eqBool_int h
    · rw [Ub] at h; exact SeqAt.EqAt.int_str i t y u _ _ _ _ h
  · rcases fc hv with ⟨j, u, rfl, rfl⟩ | ⟨y, u, rfl, rfl⟩
    · rw [uc] at h; exact SeqAt.EqAt.str_int x t j u _ _ _ _ h
    · rw [ub] at h; exact wpAny_eqBool_str h
 «strs» := fun k x t v h => by
  rcases fc h with ⟨i, u, rfl, e⟩ | ⟨y, u, rfl, e⟩
  · exact nomatch e
  · injection e with e1 _
    subst e1
    cases v <;> rfl
theorem Uc (prog : Program) (w : World) (i : Int) (t : Tok) : (cp prog w).is (.inl i) (.int i t) = true := Tz i t
theorem ud (prog : Program) (w : World) (x : Str) (t : Tok) : (cp prog w).is (.inr x) (.str x t) = true := ua x t
inductive V where
 | non | bl (b : Bool) | int (i : Int) | str (x : Str) | byt (b : Array UInt8) | flt (b : UInt64) | ref (a : Addr) | ty (n : String)
 deriving DecidableEq
def RelV : V → Value → Prop
 | .non, u => u = Value.none
 | .bl b, u => u = Value.bool b
 | .int i, u => ∃ t, u = Value.int i t
 | .str x, u => ∃ t, u = Value.str x t
 | .byt b, u => ∃ t, u = Value.bytes b t
 | .flt b, u => ∃ t, u = Value.float b t
 | .ref a, u => u = Value.ref a
 | .ty n, u => u = Value.type n
abbrev Vals : List V → List Value → Prop := Paired RelV
theorem Vals.length {xs : List V} {us : List Value} (r : Vals xs us) : xs.length = us.length := Paired.length r
theorem Vals.get : ∀ {xs : List V} {us : List Value} {i : Nat} {x : V}, Vals xs us → xs[i]? = some x → ∃ u, us[i]? = some u ∧ RelV x u
 | _, _, _, _, .nil, e => by simp at e
 | _, _, 0, _, .cons r _, e => by simp at e; subst e; exact ⟨_, rfl, r⟩
 | _, _, i + 1, x, .cons _ t, e => by
  obtain ⟨u, h1, h2⟩ := Vals.get (i := i) (x := x) t (by simpa using e)
  exact ⟨u, by simpa using h1, h2⟩
theorem Vals.set (r : RelV x u) : ∀ {xs : List V} {us : List Value} (i : Nat), Vals xs us → Vals (xs.set i x) (us.set i u)
 | _, _, _, .nil => .nil
 | _, _, 0, .cons _ t => .cons r t
 | _, _, i + 1, .cons q t => .cons q (Vals.set r i t)
theorem Vals.append : ∀ {xs ys : List V} {us ws : List Value}, Vals xs us → Vals ys ws → Vals (xs ++ ys) (us ++ ws)
 | _, _, _, _, .nil, s => s
 | _, _, _, _, .cons r t, s => .cons r (Vals.append t s)
theorem Vals.take : ∀ {xs : List V} {us : List Value} (n : Nat), Vals xs us → Vals (xs.take n) (us.take n)
 | _, _, 0, _ => .nil
 | _, _, _ + 1, .nil => .nil
 | _, _, n + 1, .cons r t => .cons r (Vals.take n t)
theorem Vals.drop : ∀ {xs : List V} {us : List Value} (n : Nat), Vals xs us → Vals (xs.drop n) (us.drop n)
 | _, _, 0, r => r
 | _, _, _ + 1, .nil => .nil
 | _, _, n + 1, .cons _ t => Vals.drop n t
def De : Option V → Option Value → Prop
 | some v, some u => RelV v u
 | none, none => True
 | _, _ => False
def KV {κ : Type} : List (κ × V) → List (κ × Value) → Prop := Paired fun (p : κ × V) (q : κ × Value) => p.1 = q.1 ∧ RelV p.2 q.2
def kV : Key → V
 | .inl i => .int i
 | .inr x => .str x
inductive HO where
 | lst (xs : List V)
 | tup (xs : List V)
 | dK (kvs : List (Key × V)) | dT (kvs : List (List Key × V))
 | set (S : Int → Bool) (n : Nat)
 | ins (C dx : Addr) (fs : List (Str × V))
 | own (x : Addr)
 | xd (fs : List (Str × V))
 | met (f x : Addr)
 | rng (lo hi : Int)
 | frz (o : Obj) (u : HO)
 | tbl (ps : Array Value)
 | ext (φ : Heap → Prop)
abbrev Hp := Addr → Option HO
def upd (H : Hp) (a : Addr) (o : HO) : Hp := fun b => if b = a then some o else H b
theorem cj : upd H a o a = some o := by unfold upd; rw [if_pos rfl]
theorem Be (h : b ≠ a) : upd H a o b = H b := by unfold upd; rw [if_neg h]
theorem jo {H : Hp} {a b : Addr} {o u : HO} (h : H a = some o) (h' : H b = some u) (d : o ≠ u) : a ≠ b := by
 intro e; subst e; rw [h] at h'; exact d (Option.some.inj h')
theorem Hr {H : Hp} {a b : Addr} {o : HO} (h : H a = some o) (h' : H b = none) : a ≠ b := by
 intro e; subst e; rw [h] at h'; cases h'
section
variable (P : Program) (w : World)
def Bk (H : Hp) (h : Heap) (a : Addr) : HO → Prop
  | .lst xs => xs.length ≤ sizeLine ∧ ∃ (its : List Value) (n : Nat), Vals xs its ∧ h.get? a = some { cls := .type "list", data := .seq its.toArray n }
  | .tup xs => xs.length ≤ sizeLine ∧ ∃ its : List Value, Vals xs its ∧ IsTup h a its.toArray
  | .dK kvs => kvs.length ≤ sizeLine ∧ (a == sysModules) = false ∧ ∃ vs, KV kvs vs ∧ h.DictOf (cp P w) a vs
  | .dT kvs => kvs.length ≤ sizeLine ∧ (a == sysModules) = false ∧ ∃ xs : List (List Key × Addr × Value),
      Paired (fun (p : List Key × V) (q : List Key × Addr × Value) => p.1 = q.1 ∧ H q.2.1 = some (.tup (p.1.map kV)) ∧ RelV p.2 q.2.2) kvs xs ∧
      ∃ o es ep, h.get? a = some o ∧ o.ExactDict ∧ o.data = .dict es ep ∧ es.toList = xs.map (entryOfKey (tupleKind (cp P w))) ∧ (xs.map (·.1)).Nodup
  | .set S n => h.SetOf (intKind P w) a S n
  | .ins C dx fs => H dx = some (.own a) ∧ fs.length ≤ 1000 ∧ dx ≠ a ∧ h.get? a = some (PySem.W.instObj C dx) ∧
      ∃ mA, h.Ns1 dx mA ∧ (∀ f, De (fs.lookup f) (mA f)) ∧ PySem.Within mA (fs.map (·.1))
  | .own _ => ∃ o, h.get? a = some o
  | .xd fs => ∃ mA, h.Ns1 a mA ∧ ∀ f, De (fs.lookup f) (mA f)
  | .rng lo hi => ∃ t u v, h.get? a = some { cls := .type "range", data := .fields #[.int lo t, .int hi u, .int 1 v] }
  | .frz o u => h.get? a = some o ∧ Bk H h a u
  | .tbl ps => h.get? a = some { cls := .none, data := .fields ps }
  | .met f x => h.get? a = some (PySem.W.methodObj (.ref f) (.ref x))
  | .ext φ => φ h ∧ (∃ o, h.get? a = some o) ∧ ∀ h1 h2 : Heap, φ h1 → (∀ o, h1.get? a = some o → h2.get? a = some o) → φ h2
def HOk (H : Hp) (h : Heap) : Prop := ∀ a o, H a = some o → Bk P w H h a o
end
section
variable {P : Program} {w : World} {H H' : Hp} {h h' : Heap} {a : Addr} {o : HO}
theorem Bk.lt (x : Bk P w H h a o) : a < h.objs.size := by
 cases o with
 | lst xs => obtain ⟨_, _, _, _, e⟩ := x; exact Heap.lt_size e
 | tup xs => obtain ⟨_, _, _, p⟩ := x; exact p.lt
 | dK kvs => obtain ⟨_, _, _, _, o, _, _, e, _⟩ := x; exact Heap.lt_size e
 | dT kvs => obtain ⟨_, _, _, _, o, _, _, e, _⟩ := x; exact Heap.lt_size e
 | set S n => obtain ⟨o, _, _, _, e, _⟩ := x; exact Heap.lt_size e
 | ins C dx fs => obtain ⟨_, _, _, e, _⟩ := x; exact Heap.lt_size e
 | own y => obtain ⟨_, e⟩ := x; exact Heap.lt_size e
 | xd fs => obtain ⟨_, ⟨_, _, _, e, _⟩, _⟩ := x; exact Heap.lt_size e
 | rng lo hi => obtain ⟨_, _, _, e⟩ := x; exact Heap.lt_size e
 | frz ob u => obtain ⟨e, _⟩ := x; exact Heap.lt_size e
 | tbl ps => exact Heap.lt_size (show h.get? a = some _ from x)
 | met f y => exact Heap.lt_size (show h.get? a = some _ from x)
 | ext φ => obtain ⟨_, ⟨_, e⟩, _⟩ := x; exact Heap.lt_size e
theorem Paired.mapP {α β : Type} {F G : α → β → Prop} : ∀ {l₁ : List α} {l₂ : List β}, Paired F l₁ l₂ → (∀ a b, F a b → G a b) → Paired G l₁ l₂
 | _, _, .nil, _ => .nil
 | _, _, .cons r t, f => .cons (f _ _ r) (Paired.mapP t f)
theorem Bk.stay (x : Bk P w H h a o) (k : ∀ b u, (b = a ∨ H b = some (.own a)) → h.get? b = some u → h'.get? b = some u)
    (ho : ∀ b, H b = some (.own a) → H' b = some (.own a)) (ht : ∀ b xs, H b = some (.tup xs) → H' b = some (.tup xs)) : Bk P w H' h' a o := by
  induction o with
  | lst xs => obtain ⟨z, its, n, r, e⟩ := x; exact ⟨z, its, n, r, k _ _ (.inl rfl) e⟩
  | tup xs => obtain ⟨z, its, r, ob, e, c⟩ := x; exact ⟨z, its, r, ob, k _ _ (.inl rfl) e, c⟩
  | dK kvs => obtain ⟨z, y, vs, r, ob, es, ep, e, c⟩ := x; exact ⟨z, y, vs, r, ob, es, ep, k _ _ (.inl rfl) e, c⟩
  | dT kvs =>
    obtain ⟨z, y, xs, r, ob, es, ep, e, c⟩ := x
    exact ⟨z, y, xs, Paired.mapP r fun p q z => ⟨z.1, ht _ _ z.2.1, z.2.2⟩, ob, es, ep, k _ _ (.inl rfl) e, c⟩
  | set S n => obtain ⟨ob, es, ep, t, e, c⟩ := x; exact ⟨ob, es, ep, t, k _ _ (.inl rfl) e, c⟩
  | ins C dx fs =>
    obtain ⟨d, z, ne, e, mA, ⟨od, es, ep, e2, c⟩, r⟩ := x
    exact ⟨ho _ d, z, ne, k _ _ (.inl rfl) e, mA, ⟨od, es, ep, k _ _ (.inr d) e2, c⟩, r⟩
  | own y => obtain ⟨ob, e⟩ := x; exact ⟨ob, k _ _ (.inl rfl) e⟩
  | xd fs => obtain ⟨mA, ⟨od, es, ep, e, c⟩, r⟩ := x; exact ⟨mA, ⟨od, es, ep, k _ _ (.inl rfl) e, c⟩, r⟩
  | rng lo hi => obtain ⟨t, u, v, e⟩ := x; exact ⟨t, u, v, k _ _ (.inl rfl) e⟩
  | frz ob u ih => obtain ⟨e, q⟩ := x; exact ⟨k _ _ (.inl rfl) e, ih q⟩
  | tbl ps =>
    have e : h.get? a = some { cls := .none, data := .fields ps } := x
    show h'.get? a = some { cls := .none, data := .fields ps }
    exact k a _ (.inl rfl) e
  | met f y =>
    have e : h.get? a = some (PySem.W.methodObj (.ref f) (.ref y)) := x
    show h'.get? a = some (PySem.W.methodObj (.ref f) (.ref y))
    exact k a _ (.inl rfl) e
  | ext φ => obtain ⟨p, ⟨o, e⟩, st⟩ := x; exact ⟨st _ _ p fun o q => k _ _ (.inl rfl) q, ⟨o, k _ _ (.inl rfl) e⟩, st⟩
theorem HOk.lt (x : HOk P w H h) (e : H a = some o) : a < h.objs.size := (x a o e).lt
theorem HOk.fresh (x : HOk P w H h) (e : h.objs.size ≤ a) : H a = none := by
 cases q : H a with
 | none => rfl
 | some u => exact absurd (Nat.lt_of_lt_of_le (x.lt q) e) (Nat.lt_irrefl _)
theorem HOk.kept (x : HOk P w H h) (k : ∀ b u, h.get? b = some u → h'.get? b = some u) : HOk P w H h' := fun a o e =>
 (x a o e).stay (fun b u _ q => k b u q) (fun _ q => q) fun _ _ q => q
theorem HOk.laid (x : HOk P w H h) (k : ∀ b u, h.get? b = some u → h'.get? b = some u) (hp : h.objs.size ≤ a) (new : Bk P w (upd H a o) h' a o) : HOk P w (upd H a o) h' := fun b u e => by
 have hn := x.fresh hp
 by_cases hb : b = a
 · subst hb; rw [cj] at e; cases e; exact new
 · rw [Be hb] at e
   exact (x b u e).stay (fun c v _ q => k c v q) (fun c q => by rw [Be (Hr q hn)]; exact q) fun c xs q => by rw [Be (Hr q hn)]; exact q
end
def Rd (H : Hp) (a : Addr) (u : HO) : Prop := H a = some u ∨ ∃ o, H a = some (.frz o u)
theorem Rd.ok (r : Rd H a u) (x : HOk P w H h) : Bk P w H h a u := by
 rcases r with r | ⟨o, r⟩
 · exact x a u r
 · obtain ⟨_, q⟩ := x a _ r
   exact q
def Mut : Option HO → Prop
 | some (.lst _) => True
 | some (.dK _) => True
 | some (.dT _) => True
 | some (.set _ _) => True
 | some (.ins _ _ _) => True
 | some (.ext _) => True
 | _ => False
section
variable {P : Program} {w : World} {H : Hp} {h h' : Heap} {x e : Addr} {o' : HO}
theorem HOk.write (ok : HOk P w H h) (mu : Mut (H x)) (he : e = x ∨ H e = some (.own x)) (k : ∀ b u, b ≠ e → h.get? b = some u → h'.get? b = some u) (heo : ∃ u, h'.get? e = some u)
    (new : Bk P w (upd H x o') h' x o') : HOk P w (upd H x o') h' := fun b u q => by
  have nown : ∀ c y, H c = some (.own y) → c ≠ x := fun c y r z => by subst z; rw [r] at mu; exact mu
  have ntup : ∀ c xs, H c = some (.tup xs) → c ≠ x := fun c xs r z => by subst z; rw [r] at mu; exact mu
  by_cases hb : b = x
  · subst hb; rw [cj] at q; cases q; exact new
  · rw [Be hb] at q
    by_cases hbe : b = e
    · have q' : H b = some (.own x) := by
        rcases he with z | z
        · exact absurd (hbe.trans z) hb
        · rw [hbe]; exact z
      rw [q] at q'; cases q'
      obtain ⟨v, hv⟩ := heo
      exact ⟨v, by rw [hbe]; exact hv⟩
    · refine (ok b u q).stay (fun c v hc r => k c v ?_ r) (fun c r => by rw [Be (nown c b r)]; exact r) fun c xs r => by rw [Be (ntup c xs r)]; exact r
      rcases hc with rfl | hc
      · exact hbe
      · rintro rfl
        rcases he with z | z
        · exact nown c b hc z
        · rw [hc] at z; cases z; exact hb rfl
end
structure Un (fs ex : List Addr) (H H' : Hp) (h h' : Heap) : Prop where
 keep : ∀ b o, h.get? b = some o → H b = none → b ∉ fs → b ∉ ex → h'.get? b = some o
 slot : ∀ b o, h.get? b = some o → H b = none → b ∈ fs → b ∉ ex → ∃ sl, h'.get? b = some { o with slots := sl }
 free : ∀ b o, h.get? b = some o → H b = none → b ∉ ex → H' b = none
 there : ∀ b o, h.get? b = some o → b ∉ ex → ∃ o', h'.get? b = some o'
 tups : ∀ b xs, H b = some (.tup xs) → H' b = some (.tup xs)
 frzs : ∀ b o u, H b = some (.frz o u) → H' b = some (.frz o u)
 tbls : ∀ b ps, H b = some (.tbl ps) → ∃ more, H' b = some (.tbl (ps ++ more))
section
variable {fs fs' ex ex' : List Addr} {H H1 H2 : Hp} {h h1 h2 h' : Heap} {a x e : Addr} {o : HO}
theorem Un.any (u : Un fs ex H H1 h h1) (q : h.get? b = some ob) (n : H b = none) (hx : b ∉ ex) : ∃ sl, h1.get? b = some { ob with slots := sl } := by
 by_cases hb : b ∈ fs
 · exact u.slot b ob q n hb hx
 · exact ⟨ob.slots, u.keep b ob q n hb hx⟩
theorem Un.trans (a : Un fs ex H H1 h h1) (b : Un fs ex H1 H2 h1 h2) : Un fs ex H H2 h h2 where
 keep := fun c ob q n hc hx => b.keep c ob (a.keep c ob q n hc hx) (a.free c ob q n hx) hc hx
 slot := fun c ob q n hc hx => by
  obtain ⟨sl, e1⟩ := a.slot c ob q n hc hx
  obtain ⟨sl', e2⟩ := b.slot c _ e1 (a.free c ob q n hx) hc hx
  exact ⟨sl', e2⟩
 free := fun c ob q n hx => by
  obtain ⟨o', e1⟩ := a.there c ob q hx
  exact b.free c o' e1 (a.free c ob q n hx) hx
 there := fun c ob q hx => by
  obtain ⟨o', e1⟩ := a.there c ob q hx
  exact b.there c o' e1 hx
 tups := fun c xs q => b.tups c xs (a.tups c xs q)
 frzs := fun c ob xs q => b.frzs c ob xs (a.frzs c ob xs q)
 tbls := fun c ps q => by
  obtain ⟨m1, e1⟩ := a.tbls c ps q
  obtain ⟨m2, e2⟩ := b.tbls c _ e1
  exact ⟨m1 ++ m2, by rw [e2, Array.append_assoc]⟩
theorem Un.kept (k : ∀ b u, h.get? b = some u → h'.get? b = some u) : Un fs ex H H h h' :=
 ⟨fun b ob q _ _ _ => k b ob q, fun b ob q _ _ _ => ⟨ob.slots, k b ob q⟩, fun _ _ _ n _ => n, fun b ob q _ => ⟨ob, k b ob q⟩, fun _ _ q => q, fun _ _ _ q => q, fun _ ps q => ⟨#[], by rw [q]; simp⟩⟩
theorem Un.refl : Un fs ex H H h h := Un.kept fun _ _ q => q
theorem Un.laid (k : ∀ b u, h.get? b = some u → h'.get? b = some u) (hp : h.objs.size ≤ a) (hn : H a = none) : Un fs ex H (upd H a o) h h' where
 keep := fun b u q _ _ _ => k b u q
 slot := fun b u q _ _ _ => ⟨u.slots, k b u q⟩
 free := fun b u q n _ => by rw [Be (Nat.ne_of_lt (Nat.lt_of_lt_of_le (Heap.lt_size q) hp))]; exact n
 there := fun b u q _ => ⟨u, k b u q⟩
 tups := fun b xs q => by rw [Be (Hr q hn)]; exact q
 frzs := fun b u xs q => by rw [Be (Hr q hn)]; exact q
 tbls := fun b ps q => ⟨#[], by rw [Be (Hr q hn), q]; simp⟩
theorem Un.write (mu : Mut (H x)) (he : e = x ∨ H e = some (.own x)) (k : ∀ b u, b ≠ e → h.get? b = some u → h'.get? b = some u) (heo : ∃ u, h'.get? e = some u) : Un fs ex H (upd H x o) h h' := by
 have hx : ∀ b, H b = none → b ≠ x := fun b n z => by subst z; rw [n] at mu; exact mu
 have hb : ∀ b, H b = none → b ≠ e := fun b n z => by
  subst z
  rcases he with r | r
  · exact hx b n r
  · rw [n] at r; cases r
 have hm : ∀ b u, H b = some u → ¬ Mut (some u) → b ≠ x := fun b u q nm z => by subst z; rw [q] at mu; exact nm mu
 refine ⟨fun b u q n _ _ => k b u (hb b n) q, fun b u q n _ _ => ⟨u.slots, k b u (hb b n) q⟩, fun b u q n _ => by rw [Be (hx b n)]; exact n, fun b u q _ => ?_,
  fun b xs q => by rw [Be (hm b _ q fun z => z)]; exact q, fun b u xs q => by rw [Be (hm b _ q fun z => z)]; exact q, fun b ps q => ⟨#[], by rw [Be (hm b _ q fun z => z), q]; simp⟩⟩
 by_cases hbe : b = e
 · subst hbe; exact heo
 · exact ⟨u, k b u hbe q⟩
end
def trk (h : Heap) (H : Hp) : List Addr := (List.range h.objs.size).filter fun a => (H a).isSome
def Fc (h : Heap) (H : Hp) : Heap := PySem.W.hideAll h (trk h H)
theorem Ud (h : Heap) (H : Hp) : (Fc h H).objs.size = h.objs.size := PySem.W.hideAll_size _ _
theorem ue (e : h.get? b = some o) (n : H b = none) : (Fc h H).get? b = some o :=
 PySem.W.hideAll_get _ e fun hm => by
  have q : (H b).isSome = true := (List.mem_filter.mp hm).2
  rw [n] at q; simp at q
theorem Ue (e : (Fc h H).get? b = some o) : h.get? b = some o ∧ H b = none := by
 have e' : h.get? b = some o := PySem.W.of_hideAll (trk h H) e
 refine ⟨e', ?_⟩
 cases q : H b with
 | none => rfl
 | some x =>
  have hm : b ∈ trk h H := List.mem_filter.mpr ⟨List.mem_range.mpr (Heap.lt_size e'), by simp [q]⟩
  have z : (Fc h H).get? b = none := PySem.W.hideAll_none (trk h H) hm
  rw [z] at e; cases e
def uf (g h : Heap) (L : Addr) : List (Addr × Obj) := (List.range h.objs.size).filterMap fun a => if a = L ∨ (g.get? a).isSome = true then none else (h.get? a).map fun o => (a, o)
def rest (g h : Heap) (L d : Addr) : List (Addr × Obj) := (uf g h L).filter fun p => decide (p.1 ≠ d)
structure Mod (K : PySem.W.Frag) (mg : Str → Option Value) (base : Heap) : Prop where
 kin : K.In base
 glob : base.Ns mainGlobals mg
 blt : ∃ mb, base.Ns builtinsNs mb ∧ ∀ x : Str, x ≠ "__name__" → mb x = bootBuiltins x
 nolimit : base.NoLimit
structure Cx where
 prog : Program
 w : World
 K : PySem.W.Frag
 mg : Str → Option Value
 base : Heap
 A : Around
 N : List Str
 s₀ : Shared
 H₀ : Hp
 env : Env
 outer : List Env
 stack : List Env
 ex : List Addr
 fn : Str → Bool
 calm : Bool
 pn : List (Addr × Obj)
 xe : Value → Shared → Prop
def frs (l : List Env) : List Addr := l.filterMap (·.frame)
abbrev Cx.fs (X : Cx) : List Addr := frs X.outer
def Vis (sc : Scope) (x : Str) : Prop := sc.names.lookup x = some .local ∨ sc.names.lookup x = some .cell ∨ sc.names.lookup x = some .free
def Loc (sc : Scope) (x : Str) : Prop := sc.names.lookup x = some .local ∨ sc.names.lookup x = some .cell
def Look (env : Env) (h : Heap) (m : Str → Option Value) (x : Str) (u : Value) : Prop :=
 (env.kindOf x = some .local ∧ m x = some u) ∨ ((env.kindOf x = some .cell ∨ env.kindOf x = some .free) ∧ ∃ c, env.cells.lookup x = some c ∧ h.IsCell c (some u))
structure Cx.Ok (X : Cx) : Prop where
 mod : Mod X.K X.mg X.base
 kind : X.env.scope.kind = .function
 glob : X.env.globals = mainGlobals
 blt : X.env.builtins = builtinsNs
 above : X.s₀.heap.objs.size ≤ X.env.locals
 inj : ∀ x y c, X.env.cells.lookup x = some c → X.env.cells.lookup y = some c → x = y
 has : ∀ x, (X.env.kindOf x = some .cell ∨ X.env.kindOf x = some .free) → ∃ c, X.env.cells.lookup x = some c
 cab : ∀ x c, X.fn x = true → X.env.cells.lookup x = some c → X.s₀.heap.objs.size ≤ c
 hd : X.calm = true → X.A.handled = none
 frames : X.A.frames = some X.stack
 stk : X.stack = X.outer ∨ (X.stack = X.env :: X.outer ∧ X.env.frame = some X.env.locals)
 exf : ∀ b ∈ X.ex, b ≠ X.env.locals ∧ ∀ x c, X.env.cells.lookup x = some c → c ≠ b
 bs : ∀ b o, X.base.get? b = some o → X.s₀.heap.get? b = some o ∧ X.H₀ b = none
 bsz : X.base.objs.size ≤ X.s₀.heap.objs.size
 noex : ∀ b o, X.base.get? b = some o → b ∉ X.ex
 exfs : ∀ b ∈ X.ex, b ∉ X.fs
 funs : X.s₀.heap.FunFrames X.base X.outer
 frf : ∀ b ∈ X.fs, X.H₀ b = none
structure Inv (X : Cx) (pins : List (Addr × Obj)) (σ : List (Option V)) (H : Hp) (s : Shared) : Prop where
 ok : X.Ok
 os : s.os = X.s₀.os
 bare : AllBare s.gens
 base : Un X.fs X.ex X.H₀ H X.s₀.heap s.heap
 loc : ∃ m, s.heap.Ns X.env.locals m ∧ ∀ (i : Nat) (x : Str) (v : V), X.N[i]? = some x → σ[i]? = some (some v) → Vis X.env.scope x → ∃ u, RelV v u ∧ Look X.env s.heap m x u
 cell : ∀ x c, X.env.cells.lookup x = some c → ∃ v, s.heap.IsCell c v
 free : H X.env.locals = none
 freeC : ∀ x c, X.env.cells.lookup x = some c → H c = none
 pin : ∀ p ∈ X.pn ++ pins, s.heap.get? p.1 = some p.2 ∧ H p.1 = none ∧ p.1 ≠ X.env.locals ∧ p.1 ∉ X.fs ∧ ∀ v, p.2.data ≠ .cell v
 hok : HOk X.prog X.w H s.heap
 len : σ.length = X.N.length
section
variable {X : Cx} {pins : List (Addr × Obj)} {σ : List (Option V)} {H H' : Hp} {s : Shared} {h' : Heap}
theorem Cx.Ok.nofr (ok : X.Ok) (e : X.base.get? b = some o) : b ∉ X.fs := fun hb => by
 have := (ok.funs.mem hb).1
 rw [e] at this; cases this
theorem Inv.bs (I : Inv X pins σ H s) : ∀ b o, X.base.get? b = some o → s.heap.get? b = some o ∧ H b = none := fun b o e =>
 ⟨I.base.keep b o (I.ok.bs b o e).1 (I.ok.bs b o e).2 (I.ok.nofr e) (I.ok.noex b o e), I.base.free b o (I.ok.bs b o e).1 (I.ok.bs b o e).2 (I.ok.noex b o e)⟩
theorem Inv.bk (I : Inv X pins σ H s) : ∀ b o, X.base.get? b = some o → s.heap.get? b = some o := fun b o e => (I.bs b o e).1
theorem Inv.mod (I : Inv X pins σ H s) : Mod X.K X.mg X.base := I.ok.mod
theorem Inv.kIn (I : Inv X pins σ H s) : X.K.In s.heap := I.ok.mod.kin.keeps I.bk
theorem Inv.lt (I : Inv X pins σ H s) : X.env.locals < s.heap.objs.size := let ⟨_, hn, _⟩ := I.loc; hn.lt
theorem Inv.sz (I : Inv X pins σ H s) : X.s₀.heap.objs.size ≤ s.heap.objs.size := Nat.le_trans I.ok.above (Nat.le_of_lt I.lt)
theorem Inv.nofs (I : Inv X pins σ H s) (h : s.heap.objs.size ≤ a) : a ∉ X.fs := fun hb => by
 obtain ⟨_, o, ho, _⟩ := I.ok.funs.mem hb
 exact absurd (Nat.lt_of_lt_of_le (Heap.lt_size ho) (Nat.le_trans I.sz h)) (Nat.lt_irrefl _)
theorem Inv.cne (I : Inv X pins σ H s) : ∀ x c, X.env.cells.lookup x = some c → c ≠ X.env.locals := fun x c e z => by
 obtain ⟨v, o, ho, hd⟩ := I.cell x c e
 obtain ⟨m, ⟨o', es, ep, ho', hd', _⟩, _⟩ := I.loc
 rw [z, ho'] at ho; cases ho; rw [hd'] at hd; cases hd
theorem Inv.funs (I : Inv X pins σ H s) : s.heap.FunFrames X.base X.outer := by
 have all : ∀ (l : List Env), (∀ b ∈ frs l, b ∈ X.fs) → X.s₀.heap.FunFrames X.base l → s.heap.FunFrames X.base l := by
  intro l
  induction l with
  | nil => intro _ _; trivial
  | cons env r ih =>
   intro hs hl
   obtain ⟨hk, ⟨L, o, hf, hn, ho, hd⟩, hr⟩ := hl
   have hL : L ∈ X.fs := hs L (by unfold frs; rw [List.filterMap_cons, hf]; exact List.mem_cons_self)
   obtain ⟨sl, e⟩ := I.base.slot L o ho (I.ok.frf L hL) hL fun z => I.ok.exfs L z hL
   exact ⟨hk, ⟨L, _, hf, hn, e, hd⟩, ih (fun b hb => hs b (by unfold frs; rw [List.filterMap_cons, hf]; exact List.mem_cons_of_mem _ hb)) hr⟩
 exact all X.outer (fun _ hb => hb) I.ok.funs
theorem Inv.stack (I : Inv X pins σ H s) : s.heap.FunFrames X.base X.stack := by
 rcases I.ok.stk with e | ⟨e, hf⟩
 · rw [e]; exact I.funs
 · rw [e]
   obtain ⟨m, hn, _⟩ := I.loc
   refine .cons (by rw [I.ok.kind]; decide) hf hn ?_ I.funs
   exact Heap.get?_none_of_le (Nat.le_trans I.ok.bsz I.ok.above)
theorem Inv.stkSub (I : Inv X pins σ H s) : ∀ b ∈ frs X.stack, b ∈ X.env.locals :: X.fs := fun b hb => by
 rcases I.ok.stk with e | ⟨e, hf⟩
 · rw [e] at hb; exact List.mem_cons_of_mem _ hb
 · rw [e] at hb
   unfold frs at hb
   rw [List.filterMap_cons, hf] at hb
   exact hb
theorem Inv.stkFree (I : Inv X pins σ H s) : ∀ b ∈ frs X.stack, H b = none := fun b hb => by
 rcases List.mem_cons.mp (I.stkSub b hb) with e | hb
 · rw [e]; exact I.free
 · obtain ⟨_, o, ho, _⟩ := I.ok.funs.mem hb
   exact I.base.free b o ho (I.ok.frf b hb) fun z => I.ok.exfs b z hb
theorem Inv.step {g' : Array GenState} {t' : Nat} {d' : Drawn} {ch : List Addr} (I : Inv X pins σ H s)
    (hch : ∀ b ∈ ch, (b ∈ X.ex ∨ X.s₀.heap.objs.size ≤ b) ∧ b ≠ X.env.locals ∧ (∀ x c, X.env.cells.lookup x = some c → c ≠ b) ∧ ∀ p ∈ X.pn ++ pins, p.1 ≠ b)
    (keep : ∀ b o, b ≠ X.env.locals → b ∉ X.fs → b ∉ ch → s.heap.get? b = some o → H b = none → h'.get? b = some o)
    (slot : ∀ b o, b ≠ X.env.locals → b ∈ X.fs → b ∉ ch → s.heap.get? b = some o → H b = none → ∃ sl, h'.get? b = some { o with slots := sl }) (free : ∀ b o, b ∉ ch → s.heap.get? b = some o → H b = none → H' b = none)
    (there : ∀ b o, b ∉ ch → s.heap.get? b = some o → ∃ o', h'.get? b = some o')
    (tups : ∀ b xs, H b = some (.tup xs) → H' b = some (.tup xs)) (frzs : ∀ b o u, H b = some (.frz o u) → H' b = some (.frz o u)) (tbls : ∀ b ps, H b = some (.tbl ps) → ∃ more, H' b = some (.tbl (ps ++ more)))
    (ns : ∀ m, s.heap.Ns X.env.locals m → h'.Ns X.env.locals m) (hok : HOk X.prog X.w H' h') (hg : AllBare g') :
    Inv X pins σ H' { s with heap := h', gens := g', drawn := d', toks := t' } := by
  have neL : ∀ b o, X.s₀.heap.get? b = some o → b ≠ X.env.locals := fun b o e => Nat.ne_of_lt (Nat.lt_of_lt_of_le (Heap.lt_size e) I.ok.above)
  have neC : ∀ b o, X.s₀.heap.get? b = some o → b ∉ X.ex → b ∉ ch := fun b o e hx hb => by
    rcases (hch b hb).1 with z | z
    · exact hx z
    · exact absurd (Nat.lt_of_lt_of_le (Heap.lt_size e) z) (Nat.lt_irrefl _)
  have cellK : ∀ x c, X.env.cells.lookup x = some c → ∀ v, s.heap.IsCell c v → h'.IsCell c v := fun x c e v ⟨o, ho, hd⟩ => by
    have nch : c ∉ ch := fun z => (hch c z).2.2.1 x c e rfl
    by_cases hc : c ∈ X.fs
    · obtain ⟨sl, q⟩ := slot c o (I.cne x c e) hc nch ho (I.freeC x c e)
      exact ⟨_, q, hd⟩
    · exact ⟨o, keep c o (I.cne x c e) hc nch ho (I.freeC x c e), hd⟩
  refine ⟨I.ok, I.os, hg, ⟨fun b o e n hb hx => ?_, fun b o e n hb hx => ?_, fun b o e n hx => ?_, fun b o e hx => ?_, fun b xs e => tups b xs (I.base.tups b xs e), fun b o xs e => frzs b o xs (I.base.frzs b o xs e), fun b ps e => ?_⟩, ?_, fun x c e => ?_, ?_, fun x c e => ?_, fun p hp => ?_, hok, I.len⟩
  · exact keep b o (neL b o e) hb (neC b o e hx) (I.base.keep b o e n hb hx) (I.base.free b o e n hx)
  · obtain ⟨sl, e1⟩ := I.base.slot b o e n hb hx
    obtain ⟨sl', e2⟩ := slot b _ (neL b o e) hb (neC b o e hx) e1 (I.base.free b o e n hx)
    exact ⟨sl', e2⟩
  · obtain ⟨o', e1⟩ := I.base.there b o e hx
    exact free b o' (neC b o e hx) e1 (I.base.free b o e n hx)
  · obtain ⟨o', e1⟩ := I.base.there b o e hx
    exact there b o' (neC b o e hx) e1
  · obtain ⟨m1, e1⟩ := I.base.tbls b ps e
    obtain ⟨m2, e2⟩ := tbls b _ e1
    exact ⟨m1 ++ m2, by rw [e2, Array.append_assoc]⟩
  · obtain ⟨m, hn, hl⟩ := I.loc
    refine ⟨m, ns m hn, fun i x v e1 e2 e3 => ?_⟩
    obtain ⟨u, r, l⟩ := hl i x v e1 e2 e3
    refine ⟨u, r, ?_⟩
    rcases l with l | ⟨k, c, e, z⟩
    · exact .inl l
    · exact .inr ⟨k, c, e, cellK x c e _ z⟩
  · obtain ⟨v, z⟩ := I.cell x c e
    exact ⟨v, cellK x c e v z⟩
  · obtain ⟨m, ⟨o, _, _, ho, _⟩, _⟩ := I.loc
    exact free _ o (fun z => (hch _ z).2.1 rfl) ho I.free
  · obtain ⟨v, o, ho, hd⟩ := I.cell x c e
    exact free c o (fun z => (hch c z).2.2.1 x c e rfl) ho (I.freeC x c e)
  · obtain ⟨e, n, ne, nf, d⟩ := I.pin p hp
    have nch : p.1 ∉ ch := fun z => (hch p.1 z).2.2.2 p hp rfl
    exact ⟨keep p.1 p.2 ne nf nch e n, free p.1 p.2 nch e n, ne, nf, d⟩
theorem Inv.un {t' : Nat} (I : Inv X pins σ H s) (u : Un X.fs [] H H' s.heap h') (hok : HOk X.prog X.w H' h') : Inv X pins σ H' { s with heap := h', toks := t' } := by
 obtain ⟨m, ⟨o, es, ep, ho, r⟩, _⟩ := id I.loc
 obtain ⟨sl, hL⟩ := u.any ho I.free (by simp)
 exact I.step (g' := s.gens) (d' := s.drawn) (ch := []) (fun _ z => nomatch z) (fun b o _ hb _ e n => u.keep b o e n hb (by simp)) (fun b o _ hb _ e n => u.slot b o e n hb (by simp)) (fun b o _ e n => u.free b o e n (by simp)) (fun b o _ e => u.there b o e (by simp)) u.tups u.frzs u.tbls (fun m' hm => by
  obtain ⟨o', es', ep', ho', r'⟩ := hm
  rw [ho] at ho'; cases ho'
  exact ⟨_, es', ep', hL, r'⟩) hok I.bare
theorem Inv.call {g' : Array GenState} {t' : Nat} {d' : Drawn} {ch : List Addr} (I : Inv X pins σ H s) (u : Un (frs X.stack) ch H H' s.heap h') (hok : HOk X.prog X.w H' h') (hg : AllBare g')
    (hch : ∀ b ∈ ch, (b ∈ X.ex ∨ X.s₀.heap.objs.size ≤ b) ∧ b ≠ X.env.locals ∧ (∀ x c, X.env.cells.lookup x = some c → c ≠ b) ∧ ∀ p ∈ X.pn ++ pins, p.1 ≠ b) :
    Inv X pins σ H' { s with heap := h', gens := g', drawn := d', toks := t' } := by
  obtain ⟨m, ⟨o, es, ep, ho, r⟩, _⟩ := id I.loc
  obtain ⟨sl, hL⟩ := u.any ho I.free fun z => (hch _ z).2.1 rfl
  exact I.step (ch := ch) hch (fun b o hL hb hc e n => u.keep b o e n (fun z => (List.mem_cons.mp (I.stkSub b z)).elim hL hb) hc) (fun b o _ _ hc e n => u.any e n hc) (fun b o hc e n => u.free b o e n hc) (fun b o hc e => u.there b o e hc) u.tups u.frzs u.tbls (fun m' hm => by
    obtain ⟨o', es', ep', ho', r'⟩ := hm
    rw [ho] at ho'; cases ho'
    exact ⟨_, es', ep', hL, r'⟩) hok hg
theorem Inv.turned {t' : Nat} {it : Addr} (I : Inv X pins σ H s) (k : ∀ b o, b ≠ it → s.heap.get? b = some o → h'.get? b = some o) (hn : H it = none) (hL : it ≠ X.env.locals)
    (h1 : it ∈ X.ex ∨ X.s₀.heap.objs.size ≤ it) (h2 : ∀ x c, X.env.cells.lookup x = some c → c ≠ it) (h3 : ∀ p ∈ X.pn ++ pins, p.1 ≠ it) : Inv X pins σ H { s with heap := h', toks := t' } := by
  have nit : ∀ b u, H b = some u → b ≠ it := fun b u e z => by rw [z, hn] at e; cases e
  refine I.step (g' := s.gens) (d' := s.drawn) (ch := [it]) (fun b hb => ?_) (fun b o _ _ hc e _ => k b o (fun z => hc (by simp [z])) e) (fun b o _ _ hc e _ => ⟨o.slots, k b o (fun z => hc (by simp [z])) e⟩) (fun _ _ _ _ n => n)
    (fun b o hc e => ⟨o, k b o (fun z => hc (by simp [z])) e⟩) (fun _ _ e => e) (fun _ _ _ e => e) (fun b ps e => ⟨#[], by rw [e]; simp⟩) (fun m hm => ?_) (fun b u e => ?_) I.bare
  · have e : b = it := by simpa using hb
    subst e
    exact ⟨h1, hL, h2, h3⟩
  · obtain ⟨o, es, ep, ho, r⟩ := hm
    exact ⟨o, es, ep, k _ o (Ne.symm hL) ho, r⟩
  · refine (I.hok b u e).stay (fun c v hc q => k c v ?_ q) (fun _ q => q) fun _ _ q => q
    rcases hc with z | z
    · rw [z]; exact nit b u e
    · exact nit c _ z
theorem Inv.tok (I : Inv X pins σ H s) (t : Nat) : Inv X pins σ H { s with toks := t } := I.un (h' := s.heap) (t' := t) Un.refl I.hok
theorem Inv.kept {t' : Nat} (I : Inv X pins σ H s) (k : ∀ b u, s.heap.get? b = some u → h'.get? b = some u) : Inv X pins σ H { s with heap := h', toks := t' } := I.un (Un.kept k) (I.hok.kept k)
theorem Inv.laid (I : Inv X pins σ H s) (k : ∀ b u, s.heap.get? b = some u → h'.get? b = some u) (hp : s.heap.objs.size ≤ a) (new : Bk X.prog X.w (upd H a o) h' a o) :
    Inv X pins σ (upd H a o) { s with heap := h', toks := t' } := I.un (Un.laid k hp (I.hok.fresh hp)) (I.hok.laid k hp new)
theorem Inv.write (I : Inv X pins σ H s) (mu : Mut (H x)) (he : e = x ∨ H e = some (.own x)) (k : ∀ b u, b ≠ e → s.heap.get? b = some u → h'.get? b = some u) (heo : ∃ u, h'.get? e = some u)
    (new : Bk X.prog X.w (upd H x o) h' x o) : Inv X pins σ (upd H x o) { s with heap := h', toks := t' } := I.un (Un.write mu he k heo) (I.hok.write mu he k heo new)
theorem Inv.pins_of (I : Inv X pins σ H s) (h : ∀ p ∈ pins', s.heap.get? p.1 = some p.2 ∧ H p.1 = none ∧ p.1 ≠ X.env.locals ∧ p.1 ∉ X.fs ∧ ∀ v, p.2.data ≠ .cell v) : Inv X pins' σ H s :=
 ⟨I.ok, I.os, I.bare, I.base, I.loc, I.cell, I.free, I.freeC, fun p hp => (List.mem_append.mp hp).elim (fun z => I.pin p (List.mem_append_left _ z)) (h p), I.hok, I.len⟩
theorem ny {N : List Str} (hN : N.Nodup) {i j : Nat} {x : Str} (a : N[i]? = some x) (b : N[j]? = some x) : i = j := by
 obtain ⟨h1, e1⟩ := List.getElem?_eq_some_iff.mp a
 obtain ⟨h2, e2⟩ := List.getElem?_eq_some_iff.mp b
 exact (List.getElem_inj hN).mp (e1.trans e2.symm)
theorem ug {M : Model} {A : Around} {E : Value → Shared → Prop} {i : Nat} {x : Str} {v : V} {u : Value} {Q : Unit → Shared → Prop} (I : Inv X pins σ H s) (hN : X.N.Nodup) (hi : X.N[i]? = some x) (hx : Loc X.env.scope x) (r : RelV v u)
    (h : ∀ s', Inv X pins (σ.set i (some v)) H s' → (∃ a, Heap.SameBut a s.heap s'.heap ∧ (a = X.env.locals ∨ X.env.cells.lookup x = some a)) → Q () s') (hf : X.fn x = true ∨ X.env.scope.names.lookup x = some .local := by first | exact .inl rfl | exact .inr rfl | assumption) : wpAny M A (storeName X.env x u) Q E s := by
  obtain ⟨m, hn, hl⟩ := id I.loc
  have hcls : (X.env.scope.kind == .class || (X.env.scope.kind == .module && X.env.locals != X.env.globals)) = false := by rw [I.ok.kind]; rfl
  have hiσ : i < σ.length := by rw [I.len]; exact (List.getElem?_eq_some_iff.mp hi).1
  have cne := I.cne
  have tracked : ∀ {a : Addr} {h' : Heap}, (∃ o, s.heap.get? a = some o ∧ H a = none) → Heap.SameBut a s.heap h' → HOk X.prog X.w H h' := fun {a h'} ha hs b ob e => by
    obtain ⟨_, _, hfree⟩ := ha
    refine (I.hok b ob e).stay (fun c w' hc q => (hs.2 c ?_).trans q) (fun _ q => q) fun _ _ q => q
    rintro rfl
    rcases hc with rfl | hc
    · rw [hfree] at e; cases e
    · rw [hfree] at hc; cases hc
  rcases hx with hk | hk
  · refine wpAny_storeName_local hk hn (fun h' hn' hs => ?_) hcls
    obtain ⟨oL, _, _, hoL, _⟩ := id hn
    refine h _ ⟨I.ok, I.os, I.bare, ⟨fun b o e n hb hx => ?_, fun b o e n hb hx => ?_, I.base.free, fun b o e hx => ?_, I.base.tups, I.base.frzs, I.base.tbls⟩, ⟨_, hn', fun j y v' e1 e2 e3 => ?_⟩, fun y c e => ?_, I.free, I.freeC, fun p hp => ?_, tracked ⟨oL, hoL, I.free⟩ hs, by simpa using I.len⟩ ⟨_, hs, .inl rfl⟩
    · exact (hs.2 b (Nat.ne_of_lt (Nat.lt_of_lt_of_le (Heap.lt_size e) I.ok.above))).trans (I.base.keep b o e n hb hx)
    · obtain ⟨sl, e1⟩ := I.base.slot b o e n hb hx
      exact ⟨sl, (hs.2 b (Nat.ne_of_lt (Nat.lt_of_lt_of_le (Heap.lt_size e) I.ok.above))).trans e1⟩
    · obtain ⟨o', e1⟩ := I.base.there b o e hx
      exact ⟨o', (hs.2 b (Nat.ne_of_lt (Nat.lt_of_lt_of_le (Heap.lt_size e) I.ok.above))).trans e1⟩
    · by_cases hj : j = i
      · subst hj
        rw [hi] at e1; cases e1
        rw [List.getElem?_set_self hiσ] at e2
        cases e2
        exact ⟨u, r, .inl ⟨hk, by simp⟩⟩
      · rw [List.getElem?_set_ne (Ne.symm hj)] at e2
        obtain ⟨u', r', q⟩ := hl j y v' e1 e2 e3
        refine ⟨u', r', ?_⟩
        rcases q with ⟨k, e⟩ | ⟨k, c, e, z⟩
        · refine .inl ⟨k, ?_⟩
          have : y ≠ x := fun e => hj (ny hN e1 (e ▸ hi))
          simp [this, e]
        · exact .inr ⟨k, c, e, z.sameBut hs (cne y c e)⟩
    · obtain ⟨w', z⟩ := I.cell y c e
      exact ⟨w', z.sameBut hs (cne y c e)⟩
    · obtain ⟨e, n, ne, nf, d⟩ := I.pin p hp
      exact ⟨(hs.2 p.1 ne).trans e, n, ne, nf, d⟩
  · have hfn : X.fn x = true := by
      rcases hf with z | z
      · exact z
      · rw [z] at hk; cases hk
    obtain ⟨c, hc⟩ := I.ok.has x (.inl hk)
    obtain ⟨w', z⟩ := I.cell x c hc
    refine wpAny_storeName_cell I.ok.kind hk hc z (fun h' hc' hs => ?_)
    obtain ⟨oc, hoc, hocd⟩ := id z
    refine h { s with heap := h' } ⟨I.ok, I.os, I.bare, ⟨fun b o e n hb hx => ?_, fun b o e n hb hx => ?_, I.base.free, fun b o e hx => ?_, I.base.tups, I.base.frzs, I.base.tbls⟩, ⟨m, hn.sameBut hs (Ne.symm (cne x c hc)), fun j y v' e1 e2 e3 => ?_⟩, fun y c' e => ?_, I.free, I.freeC, fun p hp => ?_, tracked ⟨oc, hoc, I.freeC x c hc⟩ hs, by simpa using I.len⟩ ⟨c, hs, .inr hc⟩
    · exact (hs.2 b (Nat.ne_of_lt (Nat.lt_of_lt_of_le (Heap.lt_size e) (I.ok.cab x c hfn hc)))).trans (I.base.keep b o e n hb hx)
    · obtain ⟨sl, e1⟩ := I.base.slot b o e n hb hx
      exact ⟨sl, (hs.2 b (Nat.ne_of_lt (Nat.lt_of_lt_of_le (Heap.lt_size e) (I.ok.cab x c hfn hc)))).trans e1⟩
    · obtain ⟨o', e1⟩ := I.base.there b o e hx
      exact ⟨o', (hs.2 b (Nat.ne_of_lt (Nat.lt_of_lt_of_le (Heap.lt_size e) (I.ok.cab x c hfn hc)))).trans e1⟩
    · by_cases hj : j = i
      · subst hj
        rw [hi] at e1; cases e1
        rw [List.getElem?_set_self hiσ] at e2
        cases e2
        exact ⟨u, r, .inr ⟨.inl hk, c, hc, hc'⟩⟩
      · rw [List.getElem?_set_ne (Ne.symm hj)] at e2
        obtain ⟨u', r', q⟩ := hl j y v' e1 e2 e3
        refine ⟨u', r', ?_⟩
        rcases q with q | ⟨k, c', e, z'⟩
        · exact .inl q
        · refine .inr ⟨k, c', e, z'.sameBut hs ?_⟩
          rintro rfl
          exact hj (ny hN e1 (I.ok.inj _ _ _ e hc ▸ hi))
    · by_cases hcc : c' = c
      · subst hcc; exact ⟨_, hc'⟩
      · obtain ⟨w2, z2⟩ := I.cell y c' e
        exact ⟨w2, z2.sameBut hs hcc⟩
    · obtain ⟨e, n, ne, nf, d⟩ := I.pin p hp
      refine ⟨(hs.2 p.1 ?_).trans e, n, ne, nf, d⟩
      intro q
      rw [q, hoc] at e
      have q' : oc = p.2 := Option.some.inj e
      exact d w' (by rw [← q']; exact hocd)
theorem Hs {M : Model} {A : Around} {E : Value → Shared → Prop} {i : Nat} {x : Str} {v : V} {u : Value} {Q : Unit → Shared → Prop} (I : Inv X pins σ H s) (hN : X.N.Nodup) (hi : X.N[i]? = some x) (hx : Loc X.env.scope x) (r : RelV v u)
    (h : ∀ s', Inv X pins (σ.set i (some v)) H s' → Q () s') (hf : X.fn x = true ∨ X.env.scope.names.lookup x = some .local := by first | exact .inl rfl | exact .inr rfl | assumption) : wpAny M A (storeName X.env x u) Q E s :=
  ug I hN hi hx r (fun s' I' _ => h s' I') hf
theorem Inv.call' (I : Inv X pins σ H s) (ho : s'.os = s.os) (u : Un (frs X.stack) ch H H' s.heap s'.heap) (hok : HOk X.prog X.w H' s'.heap) (hg : AllBare s'.gens)
    (hch : ∀ b ∈ ch, (b ∈ X.ex ∨ X.s₀.heap.objs.size ≤ b) ∧ b ≠ X.env.locals ∧ (∀ x c, X.env.cells.lookup x = some c → c ≠ b) ∧ ∀ p ∈ X.pn ++ pins, p.1 ≠ b) : Inv X pins σ H' s' := by
  obtain ⟨h', g', d', t', o'⟩ := s'
  have e : o' = s.os := ho
  subst e
  exact I.call (g' := g') (t' := t') (d' := d') u hok hg hch
end
abbrev XK := Value → Option Addr → Hp → Prop
abbrev St := List (Option V)
abbrev VK := V → Hp → Prop
abbrev TE := St → Hp → VK → Prop
abbrev TT := St → Hp → (Bool → Hp → Prop) → Prop
abbrev TA := St → Hp → (List V → Hp → Prop) → Prop
structure Ends where
 nx : St → Hp → Prop
 rt : VK
 bk : St → Hp → Prop := fun _ _ => False
 ct : St → Hp → Prop := fun _ _ => False
abbrev TS := Ends → St → Hp → Prop
def EP (X : Cx) (pins : List (Addr × Obj)) (σ : St) (Q : VK) (u : Value) (s' : Shared) : Prop := ∃ v H', Inv X pins σ H' s' ∧ RelV v u ∧ Q v H'
def TP (X : Cx) (pins : List (Addr × Obj)) (σ : St) (Q : Bool → Hp → Prop) (b : Bool) (s' : Shared) : Prop := ∃ H', Inv X pins σ H' s' ∧ Q b H'
def AP (X : Cx) (pins : List (Addr × Obj)) (σ : St) (Q : List V → Hp → Prop) (us : List Value) (s' : Shared) : Prop := ∃ vs H', Inv X pins σ H' s' ∧ Vals vs us ∧ Q vs H'
def SP (X : Cx) (pins : List (Addr × Obj)) (D : Ends) (f : Flow) (s' : Shared) : Prop :=
 match f with
 | .next => ∃ σ' H', Inv X pins σ' H' s' ∧ D.nx σ' H'
 | .brk => ∃ σ' H', Inv X pins σ' H' s' ∧ D.bk σ' H'
 | .cont => ∃ σ' H', Inv X pins σ' H' s' ∧ D.ct σ' H'
 | .ret u => ∃ v σ' H', Inv X pins σ' H' s' ∧ RelV v u ∧ D.rt v H'
def PE (X : Cx) (e : Expr) (t : TE) : Prop :=
 ∀ (pins : List (Addr × Obj)) (s : Shared) (σ : St) (H : Hp) (Q : VK), Inv X pins σ H s → t σ H Q → wpAny (model X.prog X.w) X.A (eval e X.env) (EP X pins σ Q) X.xe s
def PT (X : Cx) (e : Expr) (t : TT) : Prop :=
 ∀ (pins : List (Addr × Obj)) (s : Shared) (σ : St) (H : Hp) (Q : Bool → Hp → Prop), Inv X pins σ H s → t σ H Q → wpAny (model X.prog X.w) X.A (isTrue e X.env (eval e X.env)) (TP X pins σ Q) X.xe s
def PW (X : Cx) (e : Expr) (t : TT) : Prop :=
 ∀ (whole : Sem Value) (pins : List (Addr × Obj)) (s : Shared) (σ : St) (H : Hp) (Q : Bool → Hp → Prop), Inv X pins σ H s → t σ H Q → wpAny (model X.prog X.w) X.A (isTrue e X.env whole) (TP X pins σ Q) X.xe s
theorem PW.pt {X : Cx} {e : Expr} {t : TT} (h : PW X e t) : PT X e t := h _
def PA (X : Cx) (es : List Expr) (t : TA) : Prop :=
 ∀ (pos : Pos) (pins : List (Addr × Obj)) (s : Shared) (σ : St) (H : Hp) (Q : List V → Hp → Prop), Inv X pins σ H s → t σ H Q → wpAny (model X.prog X.w) X.A (spliced (backTo pos (starEach es X.env))) (AP X pins σ Q) X.xe s
def PS (X : Cx) (st : Stmt) (t : TS) : Prop :=
 ∀ (pins : List (Addr × Obj)) (s : Shared) (σ : St) (H : Hp) (D : Ends), Inv X pins σ H s → t D σ H → wpAny (model X.prog X.w) X.A (exec st X.env) (SP X pins D) X.xe s
def PSs (X : Cx) (st : List Stmt) (t : TS) : Prop :=
 ∀ (pins : List (Addr × Obj)) (s : Shared) (σ : St) (H : Hp) (D : Ends), Inv X pins σ H s → t D σ H → wpAny (model X.prog X.w) X.A (execs st X.env) (SP X pins D) X.xe s
theorem thn {α : Type} {t : Sem α} {Q Q' : α → Shared → Prop} {M : Model} {A : Around} {E : Value → Shared → Prop} {s : Shared} (h : wpAny M A t Q E s) (hQ : ∀ a s, Q a s → Q' a s) : wpAny M A t Q' E s := wpAny_mono h hQ fun _ _ x => x
section
variable {X : Cx}
def Lj (i : Nat) : TE := fun σ H Q => ∃ v, σ[i]? = some (some v) ∧ Q v H
def tC (v : V) : TE := fun _ H Q => Q v H
theorem Ug {pos : Pos} (hN : X.N[i]? = some x) (hv : Vis X.env.scope x) (hd : (x == ("__debug__" : Str)) = false := by decide) (hcd : (x == ("__classdict__" : Str)) = false := by decide) : PE X (.Name x pos) (Lj i) := by
 intro pins s σ H Q I h
 obtain ⟨v, e, h⟩ := h
 obtain ⟨m, hn, hl⟩ := I.loc
 obtain ⟨u, r, l⟩ := hl i x v hN e hv
 have fin : EP X pins σ Q u s := ⟨v, H, I, r, h⟩
 rcases l with ⟨hk, hm⟩ | ⟨hk, c, hc, hcell⟩
 · exact wpAny_Name (wpAny_loadName_local I.ok.kind hk hn hm fin) hd
 · rcases hk with hk | hk
   · exact wpAny_Name (wpAny_loadName_cell I.ok.kind hk hc hcell fin) hd
   · exact wpAny_Name (wpAny_loadName_free I.ok.kind hk hc hcell fin hcd) hd
theorem uh {i j pos} : PE X (.Constant (.int i) j pos) (tC (.int i)) := fun _ _ _ H _ I h => wpAny_Constant_int ⟨.int i, H, I.tok _, ⟨_, rfl⟩, h⟩
theorem Uh {b j pos} : PE X (.Constant (.bool b) j pos) (tC (.bl b)) := fun _ _ _ H _ I h => Constant_bool ⟨.bl b, H, I, rfl, h⟩
theorem ui {j pos} : PE X (.Constant .none j pos) (tC .non) := fun _ _ _ H _ I h => Constant_none ⟨.non, H, I, rfl, h⟩
theorem Ny {x j pos} : PE X (.Constant (.str x) j pos) (tC (.str x)) := fun _ _ _ H _ I h => Calls.Constant_str ⟨.str x, H, I.tok _, ⟨_, rfl⟩, h⟩
def Gl (X : Cx) (x : Str) : Prop := X.env.kindOf x = some .globalImplicit
theorem Ht {E : Value → Shared → Prop} {σ : St} {pos : Pos} (I : Inv X pins σ H s) (hg : Gl X x) (hm : X.mg x = some u) (h : Q u s)
    (hd : (x == ("__debug__" : Str)) = false := by decide) : wpAny (model X.prog X.w) X.A (eval (.Name x pos) X.env) Q E s :=
  Calls.Name_function_global I.ok.kind hg (Calls.loadGlobal_global (by rw [I.ok.glob]; exact I.mod.glob.keeps I.bk) hm h) hd
theorem Gk {E : Value → Shared → Prop} {pins : List (Addr × Obj)} {s : Shared} {σ : St} {H : Hp} {x : Str} {u : Value} {pos : Pos} {Q : Value → Shared → Prop} (I : Inv X pins σ H s) (hg : Gl X x) (hm : X.mg x = none) (hv : bootBuiltins x = some u) (h : Q u s)
    (hn : x ≠ "__name__" := by decide) (hd : (x == ("__debug__" : Str)) = false := by decide) : wpAny (model X.prog X.w) X.A (eval (.Name x pos) X.env) Q E s := by
  obtain ⟨mb, h1, h2⟩ := I.mod.blt
  exact Calls.Name_function_global I.ok.kind hg (Calls.loadGlobal_builtin (by rw [I.ok.glob]; exact I.mod.glob.keeps I.bk) hm (by rw [I.ok.blt]; exact h1.keeps I.bk) ((h2 x hn).trans hv) h) hd
theorem iz {pos : Pos} (hg : Gl X x) (hm : X.mg x = some u) (r : RelV v u) (hd : (x == ("__debug__" : Str)) = false := by decide) : PE X (.Name x pos) (tC v) :=
 fun _ _ _ H _ I h => Ht I hg hm ⟨v, H, I, r, h⟩ hd
theorem nz {pos : Pos} (hg : Gl X x) (hm : X.mg x = none) (hv : bootBuiltins x = some u) (r : RelV v u) (hn : x ≠ "__name__" := by decide) (hd : (x == ("__debug__" : Str)) = false := by decide) : PE X (.Name x pos) (tC v) :=
 fun _ _ _ H _ I h => Gk I hg hm hv ⟨v, H, I, r, h⟩ hn hd
variable {a b : Expr} {ta tb : TE} {pos : Pos}
variable {tA tB' : TT} {rest : List Expr}
def Ui (t u : TT) : TT := fun σ H Q => t σ H fun c H1 => if c = true then u σ H1 Q else Q false H1
def tOr (t u : TT) : TT := fun σ H Q => t σ H fun c H1 => if c = true then Q true H1 else u σ H1 Q
def uj (t : TT) : TT := fun σ H Q => t σ H fun c H1 => Q (!c) H1
theorem Uj (ha : PT X a tA) : PW X (.BoolOp .And [a] pos) tA := by
 intro wh pins s σ H Q I h
 refine isTrue_and (thn (ha pins s σ H Q I h) fun c s1 e => ?_)
 cases c with
 | true => exact isTrue_and_nil e
 | false => exact e
theorem uk (ha : PT X a tA) : PW X (.BoolOp .Or [a] pos) tA := by
 intro wh pins s σ H Q I h
 refine isTrue_or (thn (ha pins s σ H Q I h) fun c s1 e => ?_)
 cases c with
 | false => exact isTrue_or_nil e
 | true => exact e
theorem Uk (ha : PT X a tA) (hb : PW X (.BoolOp .And (b :: rest) pos) tB') : PW X (.BoolOp .And (a :: b :: rest) pos) (Ui tA tB') := by
 intro wh pins s σ H Q I h
 refine isTrue_and (thn (ha pins s σ H _ I h) fun c s1 ⟨H1, I1, q1⟩ => ?_)
 cases c with
 | true => exact hb wh pins s1 σ H1 Q I1 q1
 | false => exact ⟨H1, I1, q1⟩
theorem Ul (ha : PT X a tA) (hb : PW X (.BoolOp .Or (b :: rest) pos) tB') : PW X (.BoolOp .Or (a :: b :: rest) pos) (tOr tA tB') := by
 intro wh pins s σ H Q I h
 refine isTrue_or (thn (ha pins s σ H _ I h) fun c s1 ⟨H1, I1, q1⟩ => ?_)
 cases c with
 | true => exact ⟨H1, I1, q1⟩
 | false => exact hb wh pins s1 σ H1 Q I1 q1
theorem um (ha : PT X a tA) : PT X (.UnaryOp .Not a pos) (uj tA) := by
 intro pins s σ H Q I h
 exact isTrue_not (ha pins s σ H (fun c H1 => Q (!c) H1) I h)
def Um (ta tb : TE) : TE := fun σ H Q => ta σ H fun x H1 => ∃ c, x = .bl c ∧ if c = true then tb σ H1 Q else Q (.bl false) H1
def uo (ta : TE) : TE := fun σ H Q => ta σ H fun x H1 => ∃ c, x = .bl c ∧ Q (.bl (!c)) H1
theorem Uo {op} (h : PE X a t) : PE X (.BoolOp op [a] pos) t := fun pins s σ H Q I hw => BoolOp_one (h pins s σ H Q I hw)
theorem Up (ha : PE X a ta) (hb : PE X (.BoolOp .And (b :: rest) pos) tb) : PE X (.BoolOp .And (a :: b :: rest) pos) (Um ta tb) := by
 intro pins s σ H Q I h
 refine BoolOp_and (thn (ha pins s σ H _ I h) fun v s1 ⟨x, H1, I1, r1, q1⟩ => ?_)
 obtain ⟨c, rfl, q1⟩ := q1
 cases r1
 refine wpAny_truthy_bool ?_
 cases c with
 | true => exact hb pins s1 σ H1 Q I1 q1
 | false => exact ⟨.bl false, H1, I1, rfl, q1⟩
theorem uq (ha : PE X a ta) : PE X (.UnaryOp .Not a pos) (uo ta) := by
 intro pins s σ H Q I h
 refine UnaryOp_ (thn (ha pins s σ H _ I h) fun v s1 ⟨x, H1, I1, r1, q1⟩ => ?_)
 obtain ⟨c, rfl, q1⟩ := q1
 cases r1
 exact not_of (wpAny_truthy_bool ⟨.bl (!c), H1, I1, rfl, q1⟩)
def tIf (t : TT) (ta tb : TE) : TE := fun σ H Q => t σ H fun c H1 => if c = true then ta σ H1 Q else tb σ H1 Q
theorem Uq {c : Expr} (hc : PT X c tA) (ha : PE X a ta) (hb : PE X b tb) : PE X (.IfExp c a b pos) (tIf tA ta tb) := by
 intro pins s σ H Q I h
 refine wpAny_IfExp (thn (hc pins s σ H _ I h) fun d s1 ⟨H1, I1, q1⟩ => ?_)
 cases d with
 | true => exact ha pins s1 σ H1 Q I1 q1
 | false => exact hb pins s1 σ H1 Q I1 q1
end
def SqL (K : PySem.W.Frag) (H : Hp) (a : Addr) (xs : List V) : Prop :=
 Rd H a (.lst xs) ∨
  ∃ (o : Obj) (its : Array Value) (n : Nat), K.lookup a = some o ∧ o.cls = .type "list" ∧ o.dict = none ∧ o.data = .seq its n ∧ its.size ≤ sizeLine ∧ Vals xs its.toList
def SqT (K : PySem.W.Frag) (H : Hp) (a : Addr) (xs : List V) : Prop :=
 Rd H a (.tup xs) ∨
  ∃ (o : Obj) (its : Array Value) (n : Nat), K.lookup a = some o ∧ o.cls = .type "tuple" ∧ o.data = .seq its n ∧ its.size ≤ sizeLine ∧ Vals xs its.toList
def ur : Value → Option V
 | .none => some .non
 | .bool b => some (.bl b)
 | .int i _ => some (.int i)
 | .str x _ => some (.str x)
 | .bytes b _ => some (.byt b)
 | .float b _ => some (.flt b)
 | .ref a => some (.ref a)
 | .type n => some (.ty n)
 | _ => none
theorem RelV.abs (r : RelV x u) : ur u = some x := by
 cases x with
 | non => cases r; rfl
 | bl _ => cases r; rfl
 | int _ => obtain ⟨t, rfl⟩ := r; rfl
 | str _ => obtain ⟨t, rfl⟩ := r; rfl
 | byt _ => obtain ⟨t, rfl⟩ := r; rfl
 | flt _ => obtain ⟨t, rfl⟩ := r; rfl
 | ref _ => cases r; rfl
 | ty _ => cases r; rfl
theorem RelV.inj {x y : V} {u : Value} (r : RelV x u) (q : RelV y u) : x = y := Option.some.inj (r.abs.symm.trans q.abs)
theorem Vals.inj : ∀ {xs ys : List V} {us : List Value}, Vals xs us → Vals ys us → xs = ys
 | _, _, _, .nil, .nil => rfl
 | _, _, _, .cons r t, .cons r' t' => by rw [r.inj r', Vals.inj t t']
section
variable {X : Cx} {pins : List (Addr × Obj)} {σ : St} {H : Hp} {s : Shared} {a : Addr} {xs ys : List V}
theorem SqL.of {K : PySem.W.Frag} (h : H a = some (.lst xs)) : SqL K H a xs := .inl (.inl h)
theorem SqT.of {K : PySem.W.Frag} (h : H a = some (.tup xs)) : SqT K H a xs := .inl (.inl h)
theorem Inv.list (I : Inv X pins σ H s) (h : SqL X.K H a xs) : ∃ its : List Value, Vals xs its ∧ PlainL s.heap a its.toArray ∧ xs.length ≤ sizeLine := by
 rcases h with h | ⟨o, its, n, hk, hc, hd, hs, hz, r⟩
 · obtain ⟨z, its, n, r, e⟩ := h.ok I.hok
   exact ⟨its, r, ⟨_, n, e, rfl, rfl, rfl⟩, z⟩
 · refine ⟨its.toList, r, ⟨o, n, I.kIn a o hk, hc, hd, by simpa using hs⟩, ?_⟩
   have e := r.length
   simp only [Array.length_toList] at e
   omega
theorem Inv.tuple (I : Inv X pins σ H s) (h : SqT X.K H a xs) : ∃ its : List Value, Vals xs its ∧ IsTup s.heap a its.toArray ∧ xs.length ≤ sizeLine := by
 rcases h with h | ⟨o, its, n, hk, hc, hs, hz, r⟩
 · obtain ⟨z, its, r, p⟩ := h.ok I.hok
   exact ⟨its, r, p, z⟩
 · refine ⟨its.toList, r, ⟨o, I.kIn a o hk, hc, n, by simpa using hs⟩, ?_⟩
   have e := r.length
   simp only [Array.length_toList] at e
   omega
theorem Inv.list_inj (I : Inv X pins σ H s) (h : SqL X.K H a xs) (h' : SqL X.K H a ys) : xs = ys := by
 obtain ⟨its, r, ⟨o, n, e, _, _, d⟩, _⟩ := I.list h
 obtain ⟨its', r', ⟨o', n', e', _, _, d'⟩, _⟩ := I.list h'
 rw [e] at e'; cases e'
 rw [d] at d'
 injection d' with d1 _
 have : its = its' := by simpa using congrArg Array.toList d1
 subst this
 exact r.inj r'
theorem Inv.tuple_inj (I : Inv X pins σ H s) (h : SqT X.K H a xs) (h' : SqT X.K H a ys) : xs = ys := by
 obtain ⟨its, r, ⟨o, e, _, n, d⟩, _⟩ := I.tuple h
 obtain ⟨its', r', ⟨o', e', _, n', d'⟩, _⟩ := I.tuple h'
 rw [e] at e'; cases e'
 rw [d] at d'
 injection d' with d1 _
 have : its = its' := by simpa using congrArg Array.toList d1
 subst this
 exact r.inj r'
end
abbrev Cx.wish (X : Cx) (E : Value → Shared → Prop) : Cx := { X with xe := E }
abbrev Cx.nox (X : Cx) : Cx := X.wish fun _ _ => False
theorem Cx.Ok.wish {X : Cx} (ok : X.Ok) (E : Value → Shared → Prop) : (X.wish E).Ok :=
 ⟨ok.mod, ok.kind, ok.glob, ok.blt, ok.above, ok.inj, ok.has, ok.cab, ok.hd, ok.frames, ok.stk, ok.exf, ok.bs, ok.bsz, ok.noex, ok.exfs, ok.funs, ok.frf⟩
theorem Cx.Ok.unwish {X : Cx} {E : Value → Shared → Prop} (ok : (X.wish E).Ok) : X.Ok :=
 ⟨ok.mod, ok.kind, ok.glob, ok.blt, ok.above, ok.inj, ok.has, ok.cab, ok.hd, ok.frames, ok.stk, ok.exf, ok.bs, ok.bsz, ok.noex, ok.exfs, ok.funs, ok.frf⟩
section
variable {X : Cx} {pins : List (Addr × Obj)} {σ : St} {H : Hp} {s : Shared} {E : Value → Shared → Prop}
theorem Inv.wish (I : Inv X pins σ H s) (E : Value → Shared → Prop) : Inv (X.wish E) pins σ H s := ⟨I.ok.wish E, I.os, I.bare, I.base, I.loc, I.cell, I.free, I.freeC, I.pin, I.hok, I.len⟩
theorem Inv.unwish (I : Inv (X.wish E) pins σ H s) : Inv X pins σ H s := ⟨I.ok.unwish, I.os, I.bare, I.base, I.loc, I.cell, I.free, I.freeC, I.pin, I.hok, I.len⟩
theorem SP.unwish (h : SP (X.wish E) pins D f s') : SP X pins D f s' := by
 cases f with
 | next => obtain ⟨σ', H', I, q⟩ := h; exact ⟨σ', H', I.unwish, q⟩
 | brk => obtain ⟨σ', H', I, q⟩ := h; exact ⟨σ', H', I.unwish, q⟩
 | cont => obtain ⟨σ', H', I, q⟩ := h; exact ⟨σ', H', I.unwish, q⟩
 | ret u => obtain ⟨v, σ', H', I, r, q⟩ := h; exact ⟨v, σ', H', I.unwish, r, q⟩
theorem PE.nox (h : PE X.nox e t) : PE X e t := fun pins s σ H Q I hw =>
 wpAny_mono (h pins s σ H Q (I.wish _) hw) (fun _ _ ⟨v, H', I', r, q⟩ => ⟨v, H', I'.unwish, r, q⟩) fun _ _ z => False.elim z
theorem PT.nox (h : PT X.nox e t) : PT X e t := fun pins s σ H Q I hw =>
 wpAny_mono (h pins s σ H Q (I.wish _) hw) (fun _ _ ⟨H', I', q⟩ => ⟨H', I'.unwish, q⟩) fun _ _ z => False.elim z
theorem PSs.nox {st : List Stmt} {t : TS} (h : PSs X.nox st t) : PSs X st t := fun pins s σ H D I hw =>
 wpAny_mono (h pins s σ H D (I.wish _) hw) (fun _ _ q => q.unwish) fun _ _ z => False.elim z
end
section
variable {X : Cx} {st : Stmt} {rest : List Stmt} {t u : TS} {e : Expr} {te : TE} {pos : Pos}
def Ur : TS := fun D σ H => D.nx σ H
def Us (t u : TS) : TS := fun D σ H => t { D with nx := u D } σ H
theorem Ut : PSs X [] Ur := fun _ _ σ H _ I h => wpAny_execs_nil ⟨σ, H, I, h⟩
theorem uu (h1 : PS X st t) (h2 : PSs X rest u) : PSs X (st :: rest) (Us t u) := by
 intro pins s σ H D I h
 refine wpAny_execs_cons (thn (h1 pins s σ H { D with nx := u D } I h) fun f s1 q => ?_)
 cases f with
 | next =>
  obtain ⟨σ', H', I', q⟩ := q
  exact h2 pins s1 σ' H' D I' q
 | ret v => exact q
 | brk => exact q
 | cont => exact q
theorem Inv.quiet {pins : List (Addr × Obj)} {σ : St} {H : Hp} {s : Shared} (I : Inv X pins σ H s) : interactive X.env = false := by simp [interactive, I.ok.kind]
def Uu (te : TE) : TS := fun D σ H => te σ H fun _ H1 => D.nx σ H1
theorem uv (he : PE X e te) (hs : swapsWith e none pos.line X.env = pure false := by rfl) : PS X (.Expr e pos) (Uu te) := by
 intro pins s σ H D I h
 exact wpAny_Expr_any (thn (he pins s σ H _ I h) fun v s1 ⟨x, H1, I1, r1, q1⟩ => ⟨σ, H1, I1, q1⟩) I.quiet hs
def Uv (te : TE) : TS := fun D σ H => te σ H D.rt
theorem uw (he : PE X e te) : PS X (.Return (some e) pos) (Uv te) := by
 intro pins s σ H D I h
 exact wpAny_Return_some (thn (he pins s σ H _ I h) fun v s1 ⟨x, H1, I1, r1, q1⟩ => ⟨x, σ, H1, I1, r1, q1⟩)
def Uw (c : TT) (t u : TS) : TS := fun D σ H => c σ H fun b H1 => if b = true then t D σ H1 else u D σ H1
theorem ux {c : Expr} {a b : List Stmt} {tc : TT} (hc : PT X c tc) (ha : PSs X a t) (hb : PSs X b u) : PS X (.If c a b pos) (Uw tc t u) := by
 intro pins s σ H D I h
 refine wpAny_If (thn (hc pins s σ H _ I h) fun d s1 ⟨H1, I1, q1⟩ => ?_)
 cases d with
 | true => exact ha pins s1 σ H1 D I1 q1
 | false => exact hb pins s1 σ H1 D I1 q1
end
abbrev TG := V → St → Hp → (St → Hp → Prop) → Prop
abbrev TGs := List V → St → Hp → (St → Hp → Prop) → Prop
def PG (X : Cx) (target : Expr) (t : TG) : Prop :=
 ∀ (pins : List (Addr × Obj)) (s : Shared) (σ : St) (H : Hp) (v : V) (u : Value) (Q : St → Hp → Prop), Inv X pins σ H s → RelV v u → t v σ H Q →
  wpAny (model X.prog X.w) X.A (assign target X.env u) (fun _ s' => ∃ σ' H', Inv X pins σ' H' s' ∧ Q σ' H') X.xe s
def PGs (X : Cx) (ts : List Expr) (t : TGs) : Prop :=
 ∀ (pins : List (Addr × Obj)) (s : Shared) (σ : St) (H : Hp) (vs : List V) (us : List Value) (Q : St → Hp → Prop), Inv X pins σ H s → Vals vs us → t vs σ H Q →
  wpAny (model X.prog X.w) X.A (assignInOrder ((assignEach ts X.env).map (·.2)) us) (fun _ s' => ∃ σ' H', Inv X pins σ' H' s' ∧ Q σ' H') X.xe s
abbrev TIp := V → V → Hp → VK → Prop
def PIp (X : Cx) (op : Operator) (t : TIp) : Prop :=
 ∀ (pins : List (Addr × Obj)) (s : Shared) (σ : St) (H : Hp) (x y : V) (v u : Value) (Q : VK), Inv X pins σ H s → RelV x v → RelV y u → t x y H Q →
  wpAny (model X.prog X.w) X.A (inplaceOp op v u) (EP X pins σ Q) X.xe s
section
variable {X : Cx} {pos : Pos}
def Jo (i : Nat) : TG := fun v σ H Q => Q (σ.set i (some v)) H
theorem Ax (hN : X.N.Nodup) (hi : X.N[i]? = some x) (hx : Loc X.env.scope x) (hf : X.fn x = true ∨ X.env.scope.names.lookup x = some .local := by first | exact .inl rfl | exact .inr rfl | assumption) : PG X (.Name x pos) (Jo i) := by
 intro pins s σ H v u Q I r h
 exact wpAny_assign_Name (Hs I hN hi hx r (fun s' I' => ⟨_, H, I', h⟩) hf)
def Lk : TGs := fun vs σ H Q => vs = [] ∧ Q σ H
def Jp (t : TG) (u : TGs) : TGs := fun vs σ H Q => ∃ v r, vs = v :: r ∧ t v σ H fun σ' H' => u r σ' H' Q
theorem Bu : PGs X [] Lk := by
 intro pins s σ H vs us Q I r h
 obtain ⟨e, h⟩ := h
 subst e
 cases r
 exact assignInOrder_nil ⟨σ, H, I, h⟩
theorem Aw {e : Expr} {es : List Expr} {t : TG} {u : TGs} (h1 : PG X e t) (h2 : PGs X es u)
    (hs : (assignEach (e :: es) X.env).map (·.2) = assign e X.env :: (assignEach es X.env).map (·.2) := by rfl) : PGs X (e :: es) (Jp t u) := by
  intro pins s σ H vs us Q I r h
  obtain ⟨v, vr, e1, h⟩ := h
  subst e1
  cases r with
  | cons r rr =>
    rw [hs]
    refine assignInOrder_cons (thn (h1 pins s σ H _ _ _ I r h) fun _ s1 ⟨σ1, H1, I1, q1⟩ => ?_)
    exact h2 pins s1 σ1 H1 _ _ Q I1 rr q1
def ll (K : PySem.W.Frag) (n : Nat) (t : TGs) : TG := fun v σ H Q => ∃ a xs, v = .ref a ∧ SqT K H a xs ∧ xs.length = n ∧ t xs σ H Q
theorem Bv {k : Nat} (hc : X.calm = true) (h : PGs X es t)
    (hn : (assignEach es X.env).length = n := by rfl) (hst : (assignEach es X.env).findIdx? (·.1) = none := by rfl) : PG X (.Tuple es k pos) (ll X.K n t) := by
  intro pins s σ H v u Q I r hw
  obtain ⟨a, xs, e1, hq, hl, hw⟩ := hw
  subst e1
  cases r
  obtain ⟨its, rv, ht, hz⟩ := I.tuple hq
  refine assign_Tuple_tuple (I.ok.hd hc) ht (by simp [hn, ← hl, rv.length]) hst fun h' hx => ?_
  have I1 : Inv X pins σ H { s with heap := h' } := I.kept (t' := s.toks) fun b o e => hx b o (Nat.ne_of_lt (Heap.lt_size e)) e
  exact h pins _ σ H xs _ Q I1 (by simpa using rv) hw
def Nz (te : TE) (g : TG) : TS := fun D σ H => te σ H fun x H1 => g x σ H1 D.nx
theorem Ux {tg e : Expr} {te : TE} {g : TG} (he : PE X e te) (hg : PG X tg g) (hs : swapsWithSole [tg] e pos.line X.env = pure false := by rfl) (hw : swappedStores [tg] e X.env = pure none := by rfl)
    (h1 : (assignEach [tg] X.env).map (·.2) = [assign tg X.env] := by rfl) : PS X (.Assign [tg] e pos) (Nz te g) := by
  intro pins s σ H D I h
  refine wpAny_Assign_stores (thn (he pins s σ H _ I h) fun v s1 ⟨x, H1, I1, r1, q1⟩ => ?_) hs hw
  rw [h1]
  exact thn (hg pins s1 σ H1 x v _ I1 r1 q1) fun _ s2 q => q
theorem uy {i : Nat} {x : Str} {e : Expr} {te : TE} {pos' : Pos} (hN : X.N.Nodup) (hi : X.N[i]? = some x) (hx : Loc X.env.scope x) (he : PE X e te) (hs : swapsWith e (some (.Name x pos')) pos.line X.env = pure false := by rfl) (hf : X.fn x = true ∨ X.env.scope.names.lookup x = some .local := by first | exact .inl rfl | exact .inr rfl | assumption) :
    PS X (.Assign [.Name x pos'] e pos) (Nz te (Jo i)) := by
  intro pins s σ H D I h
  refine wpAny_Assign_Name (thn (he pins s σ H _ I h) fun v s1 ⟨y, H1, I1, r1, q1⟩ => ?_) hs
  exact Hs I1 hN hi hx r1 (fun s2 I2 => ⟨_, H1, I2, q1⟩) hf
def Uy (i j : Nat) (ta : TA) : TS := fun D σ H => ta σ H fun vs H1 => ∃ v w, vs = [v, w] ∧ D.nx ((σ.set i (some v)).set j (some w)) H1
theorem uz {i j : Nat} {x y : Str} {a b : Expr} {ta : TA} {px py pt : Pos} {kt k2 pt2} (hc : X.calm = true) (hN : X.N.Nodup) (hi : X.N[i]? = some x) (hj : X.N[j]? = some y) (hij : i ≠ j)
    (hx : X.env.scope.names.lookup x = some .local) (hy : X.env.scope.names.lookup y = some .local) (ha : PA X [a, b] ta)
    (hw : swappedStores [.Tuple [.Name x px, .Name y py] kt pt] (.Tuple [a, b] k2 pt2) X.env = pure (some [x, y]))
    (hs : swapsWithSole [.Tuple [.Name x px, .Name y py] kt pt] (.Tuple [a, b] k2 pt2) pos.line X.env = pure false := by rfl) :
    PS X (.Assign [.Tuple [.Name x px, .Name y py] kt pt] (.Tuple [a, b] k2 pt2) pos) (Uy i j ta) := by
  intro pins s σ H D I h
  rw [exec_Assign_arm]
  refine wpAny_bind (wpAny_standAt ?_)
  rw [hs]
  refine wpAny_bind (wpAny_pure ?_)
  rw [if_neg (by decide)]
  refine wpAny_bind (Tuple_ (thn (ha _ pins s σ H _ I h) fun us s1 ⟨vs, H1, I1, r1, q1⟩ => ?_))
  obtain ⟨v, w, e1, q1⟩ := q1
  subst e1
  obtain ⟨u1, u2, rfl, rv, rw'⟩ : ∃ u1 u2, us = [u1, u2] ∧ RelV v u1 ∧ RelV w u2 := by
    cases r1 with
    | cons p q =>
      cases q with
      | cons p' q' =>
        cases q'
        exact ⟨_, _, rfl, p, p'⟩
  refine wpAny_newObj_type ?_ (by show 2 ≤ sizeLine; decide)
  have I2 : Inv X pins σ H1 { s1 with heap := s1.heap.push { cls := .type "tuple", data := .seq [u1, u2].toArray } } := I1.kept (t' := s1.toks) fun b o e => Heap.get?_push_of_some _ e
  rw [hw]
  refine wpAny_bind (wpAny_pure ?_)
  show wpAny (model X.prog X.w) X.A (do rule "assign.swapped-stores"; let items ← unpackItems (.ref s1.heap.objs.size) 2 none; assignInOrder [fun v => bindName X.env y v, fun v => bindName X.env x v] items.reverse; pure Flow.next) _ _ _
  refine wpAny_bind (wpAny_rule (wpAny_bind (unpackItems_tuple (items := #[u1, u2]) (I.ok.hd hc) (IsTup.new s1.heap _) fun h' hx' => ?_)))
  have I3 := I2.kept (h' := h') (t' := s1.toks) fun b o e => hx' b o (Nat.ne_of_lt (Heap.lt_size e)) e
  show wpAny _ _ (assignInOrder [fun v => bindName X.env y v, fun v => bindName X.env x v] [u2, u1] >>= fun _ => pure Flow.next) _ _ _
  refine wpAny_bind (assignInOrder_cons (wpAny_bindName (Hs I3 hN hj (.inl hy) rw' (fun s2 I4 => ?_) (.inr hy))))
  refine assignInOrder_cons (wpAny_bindName (Hs I4 hN hi (.inl hx) rv (fun s3 I5 => assignInOrder_nil (wpAny_pure ?_)) (.inr hx)))
  rw [List.set_comm _ _ (Ne.symm hij)] at I5
  exact ⟨_, H1, I5, q1⟩
def Oa (i : Nat) (te : TE) (ti : TIp) : TS := fun D σ H => ∃ x, σ[i]? = some (some x) ∧ te σ H fun y H1 => ti x y H1 fun z H2 => D.nx (σ.set i (some z)) H2
theorem Uz {i : Nat} {x : Str} {e : Expr} {te : TE} {op : Operator} {ti : TIp} {pos' : Pos} (hN : X.N.Nodup) (hi : X.N[i]? = some x) (hx : Loc X.env.scope x) (he : PE X e te) (ho : PIp X op ti) (hf : X.fn x = true ∨ X.env.scope.names.lookup x = some .local := by first | exact .inl rfl | exact .inr rfl | assumption) :
    PS X (.AugAssign (.Name x pos') op e pos) (Oa i te ti) := by
  intro pins s σ H D I h
  obtain ⟨v, e1, h⟩ := h
  obtain ⟨m, hn, hl⟩ := I.loc
  have vis : Vis X.env.scope x := by rcases hx with k | k; exact .inl k; exact .inr (.inl k)
  obtain ⟨u, r, l⟩ := hl i x v hi e1 vis
  refine wpAny_AugAssign_Name ?_
  have go : wpAny (model X.prog X.w) X.A (eval e X.env) (fun w s₂ => wpAny (model X.prog X.w) X.A (inplaceOp op u w) (fun r s₃ => wpAny (model X.prog X.w) X.A (storeName X.env x r) (fun _ => SP X pins D .next) X.xe s₃) X.xe s₂) X.xe s := by
    refine thn (he pins s σ H _ I h) fun w s1 ⟨y, H1, I1, r1, q1⟩ => ?_
    refine thn (ho pins s1 σ H1 v y u w _ I1 r r1 q1) fun z s2 ⟨zv, H2, I2, r2, q2⟩ => ?_
    exact Hs I2 hN hi hx r2 (fun s3 I3 => ⟨_, H2, I3, q2⟩) hf
  rcases l with ⟨hk, hm⟩ | ⟨hk, c, hc, hcell⟩
  · exact wpAny_loadName_local I.ok.kind hk hn hm go
  · rcases hk with hk | hk
    · exact wpAny_loadName_cell I.ok.kind hk hc hcell go
    · rcases hx with k | k
      · have : X.env.scope.names.lookup x = some .free := hk
        rw [k] at this; cases this
      · have : X.env.scope.names.lookup x = some .free := hk
        rw [k] at this; cases this
end
section
variable {X : Cx} {pos : Pos}
def va (c : TT) (tb : TS) : TS := fun D σ H => ∃ W : Nat → St → Hp → Prop, (∃ m, W m σ H) ∧ ∀ m σ H, W m σ H →
 c σ H fun b H1 => if b = true then ∃ N : St → Hp → Prop, (∀ σ' H', N σ' H' → ∃ m', m' < m ∧ W m' σ' H') ∧ tb { D with nx := N, ct := N, bk := D.nx } σ H1 else D.nx σ H1
theorem Va {c : Expr} {body : List Stmt} {tc : TT} {tb : TS} (hp : PassesOwn (model X.prog X.w) X.A X.env X.xe) (hc : PT X c tc) (hb : PSs X body tb) : PS X (.While c body [] pos) (va tc tb) := by
 intro pins s σ H D I h
 obtain ⟨W, ⟨m0, w0⟩, turn⟩ := h
 refine wpAny_While (codeAny_whileLoop (fun n s' => ∃ σ' H', Inv X pins σ' H' s' ∧ W n σ' H') ?_ m0 ⟨σ, H, I, w0⟩)
 rintro n s1 ⟨σ1, H1, I1, w1⟩
 refine wpAny_passesOwn hp (thn (hc pins s1 σ1 H1 _ I1 (turn n σ1 H1 w1)) fun b s2 ⟨H2, I2, q2⟩ => ?_)
 cases b with
 | true =>
  obtain ⟨N, hN, q2⟩ := q2
  rw [if_pos rfl]
  refine wpAny_passesOwn hp (thn (hb pins s2 σ1 H2 _ I2 q2) fun f s3 q3 => ?_)
  cases f with
  | next =>
   obtain ⟨σ3, H3, I3, n3⟩ := q3
   obtain ⟨m', hm, w3⟩ := hN σ3 H3 n3
   exact ⟨m', hm, σ3, H3, I3, w3⟩
  | cont =>
   obtain ⟨σ3, H3, I3, n3⟩ := q3
   obtain ⟨m', hm, w3⟩ := hN σ3 H3 n3
   exact ⟨m', hm, σ3, H3, I3, w3⟩
  | brk => exact q3
  | ret v => exact q3
 | false =>
  rw [if_neg Bool.false_ne_true]
  exact wpAny_execs_nil ⟨σ1, H2, I2, q2⟩
end
structure It where
 go : Nat → Hp → Prop
 yld : Nat → Hp → V → Hp → Prop
 stop : Nat → Hp → Prop
def cy (X : Cx) (pins : List (Addr × Obj)) (H : Hp) (b : Addr) : Prop :=
 H b = none ∧ b ≠ X.env.locals ∧ b ∉ X.fs ∧ (b ∈ X.ex ∨ X.s₀.heap.objs.size ≤ b) ∧ (∀ x c, X.env.cells.lookup x = some c → c ≠ b) ∧ ∀ p ∈ X.pn ++ pins, p.1 ≠ b
theorem Inv.fpOk {X : Cx} {pins : List (Addr × Obj)} {σ : St} {H H' : Hp} {s : Shared} {b : Addr} (I : Inv X pins σ H s) (hb : s.heap.objs.size ≤ b) (hn : H' b = none) : cy X pins H' b := by
 refine ⟨hn, Nat.ne_of_gt (Nat.lt_of_lt_of_le I.lt hb), I.nofs hb, .inr (Nat.le_trans I.sz hb), fun x c e z => ?_, fun p hp z => ?_⟩
 · obtain ⟨v, q⟩ := I.cell x c e
   exact absurd (Nat.lt_of_lt_of_le q.lt (by rw [z]; exact hb)) (Nat.lt_irrefl _)
 · exact absurd (Nat.lt_of_lt_of_le (Heap.lt_size (I.pin p hp).1) (by rw [z]; exact hb)) (Nat.lt_irrefl _)
structure Turn (P : Program) (w : World) (K : PySem.W.Frag) (tg : Expr) (J : It) (fp : List Addr) (it : Addr) (tn : Nat → Heap → Prop) : Prop where
 mem : it ∈ fp
 obj : ∀ i h, tn i h → ∀ b ∈ fp, ∃ o, h.get? b = some o ∧ ∀ v, o.data ≠ .cell v
 keep : ∀ i h h', tn i h → (∀ b ∈ fp, ∀ o, h.get? b = some o → h'.get? b = some o) → tn i h'
 item : ∀ (X : Cx), X.prog = P → X.w = w → X.K = K → X.calm = true → ∀ (i : Nat) (pins : List (Addr × Obj)) (s : Shared) (σ : St) (H : Hp) (E : Value → Shared → Prop), Inv X pins σ H s → (∀ b ∈ fp, cy X pins H b) → tn i s.heap → J.go i H →
  wpAny (model P w) X.A (pyNext (.ref it)) (fun r s1 => ∃ u, r = some u ∧
   wpAny (model P w) X.A (letOwnedTupleGo tg (.ref it) u) (fun _ s2 => ∃ x H', Inv X pins σ H' s2 ∧ RelV x u ∧ J.yld i H x H' ∧ tn (i + 1) s2.heap ∧ ∀ b ∈ fp, H' b = none) E s1) E s
 done : ∀ (X : Cx), X.prog = P → X.w = w → X.K = K → X.calm = true → ∀ (i : Nat) (pins : List (Addr × Obj)) (s : Shared) (σ : St) (H : Hp) (E : Value → Shared → Prop), Inv X pins σ H s → (∀ b ∈ fp, cy X pins H b) → tn i s.heap → J.stop i H →
  wpAny (model P w) X.A (pyNext (.ref it)) (fun r s1 => r = none ∧ Inv X pins σ H s1) E s
 self : ∀ (A : Around) (i : Nat) (s : Shared) (Q : Value → Shared → Prop) (E : Value → Shared → Prop), tn i s.heap → Q (.ref it) s → wpAny (model P w) A (pyIter (.ref it)) Q E s
abbrev TI := St → Hp → (It → Hp → Prop) → Prop
def PIE (X : Cx) (pins : List (Addr × Obj)) (σ : St) (tg : Expr) (R : It → Hp → Prop) (itv : Value) (s2 : Shared) : Prop :=
 ∃ (it : Addr) (fp : List Addr) (tn : Nat → Heap → Prop) (J : It) (H' : Hp), itv = .ref it ∧ Inv X pins σ H' s2 ∧ Turn X.prog X.w X.K tg J fp it tn ∧ tn 0 s2.heap ∧ (∀ b ∈ fp, cy X pins H' b) ∧ R J H'
def PI (X : Cx) (tg iter : Expr) (wi : TI) : Prop :=
 ∀ (pins : List (Addr × Obj)) (s : Shared) (σ : St) (H : Hp) (R : It → Hp → Prop), Inv X pins σ H s → wi σ H R →
  wpAny (model X.prog X.w) X.A (eval iter X.env) (fun v s1 => wpAny (model X.prog X.w) X.A (pyIter v) (PIE X pins σ tg R) X.xe s1) X.xe s
theorem jq (ho : s.heap.get? it = some o) (hc : o.cls = .type n) (hd : o.data = .fields vs)
    (hn : ["enumerate", "zip", "dict_itemiterator", "dict_reverseitemiterator", "odict_iterator", "itertools.zip_longest", "itertools.pairwise"].contains n = false) (hQ : Q () s) : wpAny M A (letOwnedTupleGo tg (.ref it) u) Q E s := by
  unfold letOwnedTupleGo
  cases tg <;> first
    | exact wpAny_pure hQ
    | (cases u <;> first
        | exact wpAny_pure hQ
        | (refine wpAny_bind (wpAny_load ho ?_)
           rw [hc, hd]
           show wpAny M A (if (["enumerate", "zip", "dict_itemiterator", "dict_reverseitemiterator", "odict_iterator", "itertools.zip_longest", "itertools.pairwise"].contains n && vs[0]? == some (rawInt _)) = true then _ else _) Q E s
           rw [if_neg (by intro h; rw [hn, Bool.false_and] at h; cases h)]
           exact wpAny_pure hQ))
def Itl (K : PySem.W.Frag) (a : Addr) : It :=
 ⟨fun i H => ∃ xs x, SqL K H a xs ∧ xs[i]? = some x, fun i H x H' => H' = H ∧ ∀ xs, SqL K H a xs → xs[i]? = some x, fun i H => ∃ xs, SqL K H a xs ∧ xs.length ≤ i⟩
def Itt (K : PySem.W.Frag) (a : Addr) : It :=
 ⟨fun i H => ∃ xs x, SqT K H a xs ∧ xs[i]? = some x, fun i H x H' => H' = H ∧ ∀ xs, SqT K H a xs → xs[i]? = some x, fun i H => ∃ xs, SqT K H a xs ∧ xs.length ≤ i⟩
def Itr (lo : Int) (n : Nat) : It := ⟨fun i _ => i < n, fun i H x H' => H' = H ∧ x = .int (lo + i), fun i _ => n ≤ i⟩
theorem vb {P : Program} {w : World} {K : PySem.W.Frag} {tg : Expr} (a it : Addr) : Turn P w K tg (Itl K a) [it] it (fun i h => h.IsListIter it a i) where
 mem := by simp
 obj := fun i h st b hb => by
  have e : b = it := by simpa using hb
  subst e
  obtain ⟨o, e, c, d⟩ := st
  exact ⟨o, e, fun v z => by rw [d] at z; cases z⟩
 keep := fun i h h' st k => st.at fun o e => k it (by simp) o e
 item := by
  intro X hP hw hK hc i pins s σ H E I hf st hg
  subst hP hw hK
  obtain ⟨xs, x, hq, hx⟩ := hg
  obtain ⟨its, rv, p, hz⟩ := I.list hq
  obtain ⟨u, hu, ru⟩ := rv.get hx
  obtain ⟨f0, f1, f2, f3, f4, f5⟩ := hf it (by simp)
  refine wpAny_pyNext_list_item st p.isList (x := u) (by simpa using hu) fun h' st' sb => ?_
  have I1 : Inv X pins σ H { s with heap := h' } := I.turned (t' := s.toks) (fun b o hb e => (sb.2 b hb).trans e) f0 f1 f3 f4 f5
  obtain ⟨o, e, c, d⟩ := id st'
  exact ⟨u, rfl, jq (s := { s with heap := h' }) e c d (by decide) ⟨x, H, I1, ru, ⟨rfl, fun ys hy => by rw [I.list_inj hy hq]; exact hx⟩, st', fun b hb => (hf b hb).1⟩⟩
 done := by
  intro X hP hw hK hc i pins s σ H E I hf st hg
  subst hP hw hK
  obtain ⟨xs, hq, hx⟩ := hg
  obtain ⟨its, rv, p, hz⟩ := I.list hq
  obtain ⟨f0, f1, f2, f3, f4, f5⟩ := hf it (by simp)
  have hl := rv.length
  exact wpAny_pyNext_list_end (I.ok.hd hc) st p.isList (by simp; omega) fun h' eb => ⟨rfl, I.turned (t' := s.toks) (fun b o hb e => eb b o hb e) f0 f1 f3 f4 f5⟩
 self := fun _ _ _ _ _ st h => wpAny_pyIter_listiter st h
theorem Vb {P : Program} {w : World} {K : PySem.W.Frag} {tg : Expr} (a it : Addr) : Turn P w K tg (Itt K a) [it] it (fun i h => h.IsTupleIter it a i) where
 mem := by simp
 obj := fun i h st b hb => by
  have e : b = it := by simpa using hb
  subst e
  obtain ⟨o, e, c, d⟩ := st
  exact ⟨o, e, fun v z => by rw [d] at z; cases z⟩
 keep := fun i h h' st k => st.at fun o e => k it (by simp) o e
 item := by
  intro X hP hw hK hc i pins s σ H E I hf st hg
  subst hP hw hK
  obtain ⟨xs, x, hq, hx⟩ := hg
  obtain ⟨its, rv, p, hz⟩ := I.tuple hq
  obtain ⟨u, hu, ru⟩ := rv.get hx
  obtain ⟨f0, f1, f2, f3, f4, f5⟩ := hf it (by simp)
  refine wpAny_pyNext_tuple_item st (show s.heap.IsTuple a its.toArray from p) (x := u) (by simpa using hu) fun h' st' sb => ?_
  have I1 : Inv X pins σ H { s with heap := h' } := I.turned (t' := s.toks) (fun b o hb e => (sb.2 b hb).trans e) f0 f1 f3 f4 f5
  obtain ⟨o, e, c, d⟩ := id st'
  exact ⟨u, rfl, jq (s := { s with heap := h' }) e c d (by decide) ⟨x, H, I1, ru, ⟨rfl, fun ys hy => by rw [I.tuple_inj hy hq]; exact hx⟩, st', fun b hb => (hf b hb).1⟩⟩
 done := by
  intro X hP hw hK hc i pins s σ H E I hf st hg
  subst hP hw hK
  obtain ⟨xs, hq, hx⟩ := hg
  obtain ⟨its, rv, p, hz⟩ := I.tuple hq
  obtain ⟨f0, f1, f2, f3, f4, f5⟩ := hf it (by simp)
  have hl := rv.length
  exact wpAny_pyNext_tuple_end (I.ok.hd hc) st (show s.heap.IsTuple a its.toArray from p) (by simp; omega) fun h' eb => ⟨rfl, I.turned (t' := s.toks) (fun b o hb e => eb b o hb e) f0 f1 f3 f4 f5⟩
 self := fun _ _ _ _ _ st h => wpAny_pyIter_tupleiter st h
theorem vc {P : Program} {w : World} {K : PySem.W.Frag} {tg : Expr} (it : Addr) (lo : Int) (n : Nat) : Turn P w K tg (Itr lo n) [it] it (fun i h => IsRangeIter h it (lo + (i : Nat) * 1) ((n : Int) - (i : Nat)) 1) where
 mem := by simp
 obj := fun i h st b hb => by
  have e : b = it := by simpa using hb
  subst e
  exact ⟨_, st, fun v z => by
   have z' : Data.fields _ = Data.cell v := z
   cases z'⟩
 keep := fun i h h' st k => k it (by simp) _ st
 item := by
  intro X hP hw hK hc i pins s σ H E I hf st hg
  subst hP hw hK
  obtain ⟨f0, f1, f2, f3, f4, f5⟩ := hf it (by simp)
  have W := Walks.range (prog := X.prog) (w := X.w) (I.ok.hd hc) it lo 1 n
  refine W.item i s _ _ hg st fun v h' tk hv st' kk => ?_
  obtain ⟨t, rfl⟩ := hv
  have I1 : Inv X pins σ H { s with heap := h', toks := tk } := I.turned (fun b o hb e => kk b o (by simpa using hb) e) f0 f1 f3 f4 f5
  refine ⟨_, rfl, jq (s := { s with heap := h', toks := tk }) (n := "range_iterator") st' rfl rfl (by decide) ⟨.int (lo + i), H, I1, ⟨t, ?_⟩, ⟨rfl, rfl⟩, st', fun b hb => (hf b hb).1⟩⟩
  rw [Int.mul_one]
 done := by
  intro X hP hw hK hc i pins s σ H E I hf st hg
  subst hP hw hK
  obtain ⟨f0, f1, f2, f3, f4, f5⟩ := hf it (by simp)
  exact wpAny_pyNext_range_end (I.ok.hd hc) st (by have : n ≤ i := hg; omega) fun h' eb => ⟨rfl, I.turned (t' := s.toks) (fun b o hb e => eb b o hb e) f0 f1 f3 f4 f5⟩
 self := fun _ _ _ _ _ st h => wpAny_pyIter_rangeiter st h
section
variable {X : Cx} {tg : Expr}
def Vc (K : PySem.W.Frag) (tl : TE) : TI := fun σ H R => tl σ H fun x H1 => ∃ a, x = .ref a ∧ (∃ xs, SqL K H1 a xs) ∧ R (Itl K a) H1
def vd (K : PySem.W.Frag) (tl : TE) : TI := fun σ H R => tl σ H fun x H1 => ∃ a, x = .ref a ∧ (∃ xs, SqT K H1 a xs) ∧ R (Itt K a) H1
theorem Ob {l : Expr} {tl : TE} (hl : PE X l tl) : PI X tg l (Vc X.K tl) := by
 intro pins s σ H R I h
 refine thn (hl pins s σ H _ I h) fun v s1 ⟨x, H1, I1, r1, q1⟩ => ?_
 obtain ⟨a, e, ⟨xs, hq⟩, q⟩ := q1
 subst e
 cases r1
 obtain ⟨its, rv, p, hz⟩ := I1.list hq
 refine wpAny_pyIter_list p.isList ?_
 refine ⟨s1.heap.objs.size, [s1.heap.objs.size], _, _, H1, rfl, I1.kept (t' := s1.toks) fun b o e => Heap.get?_push_of_some _ e, vb a _, ⟨_, Heap.get?_push_size _ rfl, rfl, rfl⟩, fun b hb => ?_, q⟩
 have e : b = s1.heap.objs.size := by simpa using hb
 subst e
 exact I1.fpOk (Nat.le_refl _) (I1.hok.fresh (Nat.le_refl _))
theorem Oc {l : Expr} {tl : TE} (hl : PE X l tl) : PI X tg l (vd X.K tl) := by
 intro pins s σ H R I h
 refine thn (hl pins s σ H _ I h) fun v s1 ⟨x, H1, I1, r1, q1⟩ => ?_
 obtain ⟨a, e, ⟨xs, hq⟩, q⟩ := q1
 subst e
 cases r1
 obtain ⟨its, rv, p, hz⟩ := I1.tuple hq
 refine wpAny_pyIter_tuple (show s1.heap.IsTuple a its.toArray from p) ?_
 refine ⟨s1.heap.objs.size, [s1.heap.objs.size], _, _, H1, rfl, I1.kept (t' := s1.toks) fun b o e => Heap.get?_push_of_some _ e, Vb a _, ⟨_, Heap.get?_push_size _ rfl, rfl, rfl⟩, fun b hb => ?_, q⟩
 have e : b = s1.heap.objs.size := by simpa using hb
 subst e
 exact I1.fpOk (Nat.le_refl _) (I1.hok.fresh (Nat.le_refl _))
theorem Vd {pins : List (Addr × Obj)} {σ : St} {H : Hp} {s : Shared} {R : It → Hp → Prop} {E : Value → Shared → Prop} {lo hi : Int} {t u v : Tok} {tk : Nat} (I : Inv X pins σ H s) (h1 : -(2 ^ 62) ≤ lo) (h2 : lo < 2 ^ 62) (h3 : -(2 ^ 62) ≤ hi) (h4 : hi < 2 ^ 62)
    (q : R (Itr lo (hi - lo).toNat) H) : wpAny (model X.prog X.w) X.A (pyIter (.ref s.heap.objs.size)) (PIE X pins σ tg R) E { s with heap := s.heap.push { cls := .type "range", data := .fields #[.int lo t, .int hi u, .int 1 v] }, toks := tk } := by
  refine wpAny_pyIter_range (IsRange.new ..) (small_one h1 h2 h3 h4) ?_
  have I1 : Inv X pins σ H { s with heap := s.heap.push { cls := .type "range", data := .fields #[.int lo t, .int hi u, .int 1 v] }, toks := tk } := I.kept fun b o e => Heap.get?_push_of_some _ e
  refine ⟨(s.heap.push { cls := .type "range", data := .fields #[.int lo t, .int hi u, .int 1 v] }).objs.size, [(s.heap.push { cls := .type "range", data := .fields #[.int lo t, .int hi u, .int 1 v] }).objs.size], _, _, H, rfl,
    I1.kept (t' := tk) fun b o e => Heap.get?_push_of_some _ e, vc _ lo (hi - lo).toNat, ?_, fun b hb => ?_, q⟩
  · have e1 : lo + ((0 : Nat) : Int) * 1 = lo := by simp
    have e2 : (((hi - lo).toNat : Nat) : Int) - ((0 : Nat) : Int) = Builtin.Range.rangeSize lo hi 1 := by rw [rangeSize_one]; split <;> omega
    show IsRangeIter _ _ (lo + ((0 : Nat) : Int) * 1) ((((hi - lo).toNat : Nat) : Int) - ((0 : Nat) : Int)) 1
    rw [e1, e2]
    exact Heap.get?_push_size _ rfl
  · have e : b = (s.heap.push { cls := .type "range", data := .fields #[.int lo t, .int hi u, .int 1 v] }).objs.size := by simpa using hb
    subst e
    exact I1.fpOk (Nat.le_refl _) (I1.hok.fresh (Nat.le_refl _))
def ve (ta : TA) : TI := fun σ H R => ta σ H fun vs H1 => ∃ j : Int, vs = [.int j] ∧ -(2 ^ 62) ≤ j ∧ j < 2 ^ 62 ∧ R (Itr 0 j.toNat) H1
theorem Ve {a : Expr} {ta : TA} {p pos : Pos} (hg : Gl X "range") (hm : X.mg "range" = none) (ha : PA X [a] ta) (hs : starEach [a] X.env = [(false, eval a X.env)] := by rfl) : PI X tg (.Call (.Name "range" p) [a] [] pos) (ve ta) := by
 intro pins s σ H R I h
 refine Call_ (Gk I hg hm boot_range (PyProof.Rows.callWith_type1 (thn (ha pos pins s σ H _ I h) fun us s1 ⟨vs, H1, I1, r1, q1⟩ => ?_) hs rfl))
 obtain ⟨j, e, q1, q2, q⟩ := q1
 subst e
 cases r1 with
 | cons r rr =>
  cases rr
  obtain ⟨t, rfl⟩ := r
  exact call_range_1 (Vd I1 (by omega) (by omega) q1 q2 (by simpa using q))
def vf (wi : TI) (g : TG) (tb : TS) : TS := fun D σ H => wi σ H fun J H1 => ∃ W : Nat → Nat → St → Hp → Prop, (∃ m, W 0 m σ H1) ∧ ∀ i m σ H, W i m σ H →
 (J.stop i H ∧ D.nx σ H) ∨ (J.go i H ∧ ∃ N : St → Hp → Prop, (∀ σ' H', N σ' H' → ∃ m', m' < m ∧ W (i + 1) m' σ' H') ∧ ∀ x H', J.yld i H x H' → g x σ H' fun σ2 H2 => tb { D with nx := N, ct := N, bk := D.nx } σ2 H2)
def Hu (fp : List Addr) (h : Heap) : List (Addr × Obj) := fp.filterMap fun b => (h.get? b).map fun o => (b, o)
theorem Hv (hb : b ∈ fp) (e : h.get? b = some o) : (b, o) ∈ Hu fp h := List.mem_filterMap.mpr ⟨b, hb, by rw [e]; rfl⟩
theorem Vf (hp : p ∈ Hu fp h) : p.1 ∈ fp ∧ h.get? p.1 = some p.2 := by
 obtain ⟨b, hb, e⟩ := List.mem_filterMap.mp hp
 cases q : h.get? b with
 | none => rw [q] at e; cases e
 | some o =>
  rw [q] at e
  have e' : (b, o) = p := Option.some.inj e
  subst e'
  exact ⟨hb, q⟩
theorem Inv.pinned {σ : St} (I : Inv X pins σ H s) (hf : ∀ b ∈ fp, cy X pins H b) (ho : ∀ b ∈ fp, ∃ o, s.heap.get? b = some o ∧ ∀ v, o.data ≠ .cell v) : Inv X (pins ++ Hu fp s.heap) σ H s :=
 I.pins_of fun p hp => (List.mem_append.mp hp).elim (fun z => I.pin p (List.mem_append_right _ z)) fun z => by
  obtain ⟨hb, e⟩ := Vf z
  obtain ⟨f0, f1, f2, _⟩ := hf p.1 hb
  obtain ⟨o, e', d⟩ := ho p.1 hb
  rw [e] at e'; cases e'
  exact ⟨e, f0, f1, f2, d⟩
theorem Inv.unpinned {σ : St} (I : Inv X (pins ++ pl) σ H s) : Inv X pins σ H s := I.pins_of fun p hp => I.pin p (List.mem_append_right _ (List.mem_append_left _ hp))
theorem Jq {iter : Expr} {body : List Stmt} {wi : TI} {g : TG} {tb : TS} {pos : Pos} (hp : PassesOwn (model X.prog X.w) X.A X.env X.xe) (hc : X.calm = true) (hi : PI X tg iter wi) (hg : PG X tg g) (hb : PSs X body tb)
    (hs : ∀ x, foldedSetIterable iter X.env x = pure x := by intro _; rfl) : PS X (.For tg iter body [] pos) (vf wi g tb) := by
  intro pins s σ H D I h
  refine wpAny_For (thn (hi pins s σ H _ I h) fun v s1 h1 => thn h1 fun itv s2 h2 => ?_) hs
  obtain ⟨it, fp, tn, J, H2, e, I2, T, st2, f2, W, ⟨m0, w0⟩, turn⟩ := h2
  subst e
  have stat : ∀ {H' : Hp}, (∀ b ∈ fp, H' b = none) → ∀ b ∈ fp, cy X pins H' b := fun hn b hb => ⟨hn b hb, (f2 b hb).2⟩
  refine codeAny_forLoop_any (fun n s' => ∃ i σ' H', Inv X pins σ' H' s' ∧ tn i s'.heap ∧ (∀ b ∈ fp, H' b = none) ∧ W i n σ' H') ?_ m0 ⟨0, σ, H2, I2, st2, fun b hb => (f2 b hb).1, w0⟩
  rintro n s3 ⟨i, σ3, H3, I3, st3, fr3, w3⟩
  rcases turn i n σ3 H3 w3 with ⟨stop, qn⟩ | ⟨go, N, hN, step⟩
  · refine wpAny_passesOwn hp (thn (T.done X rfl rfl rfl hc i pins s3 σ3 H3 X.xe I3 (stat fr3) st3 stop) fun r s4 ⟨hr, I4⟩ => ?_)
    subst hr
    exact wpAny_execs_nil ⟨σ3, H3, I4, qn⟩
  · refine wpAny_passesOwn hp (thn (T.item X rfl rfl rfl hc i pins s3 σ3 H3 X.xe I3 (stat fr3) st3 go) fun r s4 ⟨u, hr, h4⟩ => ?_)
    subst hr
    refine wpAny_passesOwn hp (thn h4 fun _ s5 ⟨x, H5, I5, r5, y5, st5, fr5⟩ => ?_)
    have I5' := I5.pinned (stat fr5) (T.obj _ _ st5)
    refine wpAny_passesOwn hp (thn (hg _ s5 σ3 H5 x u _ I5' r5 (step x H5 y5)) fun _ s6 ⟨σ6, H6, I6, q6⟩ => ?_)
    refine wpAny_passesOwn hp (thn (hb _ s6 σ6 H6 _ I6 q6) fun f s7 q7 => ?_)
    have again : ∀ {σ7 : St} {H7 : Hp}, Inv X (pins ++ Hu fp s5.heap) σ7 H7 s7 → N σ7 H7 → ∃ m, m < n ∧ ∃ i σ' H', Inv X pins σ' H' s7 ∧ tn i s7.heap ∧ (∀ b ∈ fp, H' b = none) ∧ W i m σ' H' := fun {σ7 H7} I7 n7 => by
      obtain ⟨m', hm, w7⟩ := hN σ7 H7 n7
      refine ⟨m', hm, i + 1, σ7, H7, I7.unpinned, T.keep _ _ _ st5 fun b hb o e => (I7.pin (b, o) (List.mem_append_right _ (List.mem_append_right _ (Hv hb e)))).1, fun b hb => ?_, w7⟩
      obtain ⟨o, e, d⟩ := T.obj _ _ st5 b hb
      exact (I7.pin (b, o) (List.mem_append_right _ (List.mem_append_right _ (Hv hb e)))).2.1
    cases f with
    | next => obtain ⟨σ7, H7, I7, n7⟩ := q7; exact again I7 n7
    | cont => obtain ⟨σ7, H7, I7, n7⟩ := q7; exact again I7 n7
    | brk => obtain ⟨σ7, H7, I7, q7⟩ := q7; exact ⟨σ7, H7, I7.unpinned, q7⟩
    | ret v => obtain ⟨x7, σ7, H7, I7, r7, q7⟩ := q7; exact ⟨x7, σ7, H7, I7.unpinned, r7, q7⟩
end
abbrev R2 := V → V → Hp → VK → Prop
def OpR (X : Cx) (f : Value → Value → Sem Value) (r : R2) : Prop :=
 ∀ (pins : List (Addr × Obj)) (s : Shared) (σ : St) (H : Hp) (x y : V) (v u : Value) (Q : VK), Inv X pins σ H s → RelV x v → RelV y u → r x y H Q →
  wpAny (model X.prog X.w) X.A (f v u) (EP X pins σ Q) X.xe s
def df (X : Cx) (f : Value) (r : List V → Hp → VK → Prop) : Prop :=
 ∀ (pins : List (Addr × Obj)) (s : Shared) (σ : St) (H : Hp) (xs : List V) (us : List Value) (Q : VK), Inv X pins σ H s → Vals xs us → r xs H Q →
  wpAny (model X.prog X.w) X.A (call f us) (EP X pins σ Q) X.xe s
def vg (X : Cx) (r : V → Hp → (Bool → Hp → Prop) → Prop) : Prop :=
 ∀ (pins : List (Addr × Obj)) (s : Shared) (σ : St) (H : Hp) (x : V) (v : Value) (Q : Bool → Hp → Prop), Inv X pins σ H s → RelV x v → r x H Q →
  wpAny (model X.prog X.w) X.A (truthy v) (TP X pins σ Q) X.xe s
def tOp (r : R2) (ta tb : TE) : TE := fun σ H Q => ta σ H fun x H1 => tb σ H1 fun y H2 => r x y H2 Q
def rI (C : Int → Int → Prop) (g : Int → Int → V) : R2 := fun x y H Q => ∃ i j, x = .int i ∧ y = .int j ∧ C i j ∧ Q (g i j) H
def rI0 (g : Int → Int → V) : R2 := fun x y H Q => ∃ i j, x = .int i ∧ y = .int j ∧ Q (g i j) H
section
variable {X : Cx} {a b c : Expr} {ta tb tc : TE} {pos : Pos}
theorem Ll (ha : PE X a ta) (hb : PE X b tb) {pins : List (Addr × Obj)} {s : Shared} {σ : St} {H : Hp} {R : V → V → Hp → Prop} (I : Inv X pins σ H s)
    (h : ta σ H fun x H1 => tb σ H1 fun y H2 => R x y H2) {Q : Value → Shared → Prop} {f : Value → Value → Sem Value}
    (hf : ∀ v u s2 x y H2, Inv X pins σ H2 s2 → RelV x v → RelV y u → R x y H2 → wpAny (model X.prog X.w) X.A (f v u) Q X.xe s2) :
    wpAny (model X.prog X.w) X.A (eval a X.env) (fun v s₁ => wpAny (model X.prog X.w) X.A (eval b X.env) (fun u s₂ => wpAny (model X.prog X.w) X.A (f v u) Q X.xe s₂) X.xe s₁) X.xe s := by
  refine thn (ha pins s σ H _ I h) fun v s1 ⟨x, H1, I1, r1, q1⟩ => ?_
  refine thn (hb pins s1 σ H1 _ I1 q1) fun u s2 ⟨y, H2, I2, r2, q2⟩ => ?_
  exact hf v u s2 x y H2 I2 r1 r2 q2
theorem Hw {op : Operator} {r : R2} (ho : OpR X (binaryOp op) r) (ha : PE X a ta) (hb : PE X b tb) : PE X (.BinOp a op b pos) (tOp r ta tb) := by
 intro pins s σ H Q I h
 exact wpAny_BinOp (Ll ha hb I h fun v u s2 x y H2 I2 rx ry q => ho pins s2 σ H2 x y v u Q I2 rx ry q)
theorem opI {f : Value → Value → Sem Value} {C : Int → Int → Prop} {g : Int → Int → Int}
    (rule : ∀ (i j : Int) (t u : Tok) (s : Shared) (Q : Value → Shared → Prop) (E : Value → Shared → Prop), C i j → Q (.int (g i j) s.toks) { s with toks := s.toks + 1 } → wpAny (model X.prog X.w) X.A (f (.int i t) (.int j u)) Q E s) :
    OpR X f (rI C fun i j => .int (g i j)) := by
  intro pins s σ H x y v u Q I rx ry h
  obtain ⟨i, j, rfl, rfl, hc, q⟩ := h
  obtain ⟨t, rfl⟩ := rx
  obtain ⟨t', rfl⟩ := ry
  exact rule i j t t' s _ _ hc ⟨.int (g i j), H, I.tok _, ⟨_, rfl⟩, q⟩
theorem Od {f : Value → Value → Sem Value} {g : Int → Int → Int}
    (rule : ∀ (i j : Int) (t u : Tok) (s : Shared) (Q : Value → Shared → Prop) (E : Value → Shared → Prop), Q (.int (g i j) s.toks) { s with toks := s.toks + 1 } → wpAny (model X.prog X.w) X.A (f (.int i t) (.int j u)) Q E s) :
    OpR X f (rI0 fun i j => .int (g i j)) := by
  intro pins s σ H x y v u Q I rx ry h
  obtain ⟨i, j, rfl, rfl, q⟩ := h
  obtain ⟨t, rfl⟩ := rx
  obtain ⟨t', rfl⟩ := ry
  exact rule i j t t' s _ _ ⟨.int (g i j), H, I.tok _, ⟨_, rfl⟩, q⟩
theorem jr {f : Value → Value → Sem Value} {g : Int → Int → Bool}
    (rule : ∀ (i j : Int) (t u : Tok) (s : Shared) (Q : Value → Shared → Prop) (E : Value → Shared → Prop), Q (.bool (g i j)) s → wpAny (model X.prog X.w) X.A (f (.int i t) (.int j u)) Q E s) :
    OpR X f (rI0 fun i j => .bl (g i j)) := by
  intro pins s σ H x y v u Q I rx ry h
  obtain ⟨i, j, rfl, rfl, q⟩ := h
  obtain ⟨t, rfl⟩ := rx
  obtain ⟨t', rfl⟩ := ry
  exact rule i j t t' s _ _ ⟨.bl (g i j), H, I, rfl, q⟩
def Vg (i j : Int) : Prop := 0 ≤ j ∧ j ≤ 1000000 ∧ i.natAbs < 2 ^ 64
def Oe (i j : Int) : Prop := (-(2 ^ 64) < i ∧ i < 2 ^ 64) ∨ (-(2 ^ 64) < j ∧ j < 2 ^ 64)
theorem Oe.ok (h : Oe i j) : IntMulOk i j := by
 rcases h with ⟨h1, h2⟩ | ⟨h1, h2⟩
 · exact .of_left (intBits_le_64 h1 h2)
 · exact .of_right (intBits_le_64 h1 h2)
theorem vh : OpR X (binaryOp .Add) (rI0 fun i j => .int (i + j)) := Od fun _ _ _ _ _ _ _ q => add_int q
theorem Vh : OpR X (binaryOp .Sub) (rI0 fun i j => .int (i - j)) := Od fun _ _ _ _ _ _ _ q => sub_int q
theorem vi : OpR X (binaryOp .Mod) (rI (fun _ j => j ≠ 0) fun i j => .int (i.fmod j)) := opI fun _ _ _ _ _ _ _ hc q => mod_int' hc q
theorem Vi : OpR X (binaryOp .Pow) (rI Vg fun i j => .int (i ^ j.toNat)) := opI fun _ _ _ _ _ _ _ hc q => pow_int_small hc.1 hc.2.1 hc.2.2 q
end
section
variable {X : Cx} {a b c : Expr} {ta tb tc : TE} {pos : Pos}
theorem Lm {σ : St} (I : Inv X pins σ H s) (q : Q (.bl k) H) (e : k = k') : EP X pins σ Q (.bool k') s := by
 subst e
 exact ⟨.bl k, H, I, rfl, q⟩
theorem vj : OpR X (compareOp .Lt) (rI0 fun i j => .bl (decide (i < j))) := jr fun _ _ _ _ _ _ _ q => lt_int q
theorem Vj : OpR X (compareOp .LtE) (rI0 fun i j => .bl (decide (i ≤ j))) := jr fun _ _ _ _ _ _ _ q => le_int q
theorem vk : OpR X (compareOp .Gt) (rI0 fun i j => .bl (decide (j < i))) := jr fun _ _ _ _ _ _ _ q => gt_int q
theorem Of : OpR X (compareOp .GtE) (rI0 fun i j => .bl (decide (j ≤ i))) := jr fun _ _ _ _ _ _ _ q => ge_int q
theorem Vk : OpR X (compareOp .In) (fun x y H Q => ∃ i j, x = .str i ∧ y = .str j ∧ Q (.bl (!(Builtin.Str.occurrences j i 0 j.length 1).isEmpty)) H) := by
 intro pins s σ H x y v u Q I rx ry h
 obtain ⟨i, j, rfl, rfl, q⟩ := h
 obtain ⟨t, rfl⟩ := rx
 obtain ⟨t', rfl⟩ := ry
 exact in_str (Lm I q rfl)
theorem Vl : OpR X (compareOp .Is) (fun x y H Q => y = .non ∧ Q (.bl (decide (x = .non))) H) := by
 intro pins s σ H x y v u Q I rx ry h
 obtain ⟨rfl, q⟩ := h
 cases ry
 refine is_none_gen (Lm I q ?_)
 cases x <;> first
  | (cases rx; rfl)
  | (obtain ⟨t, rfl⟩ := rx; rfl)
theorem vm : OpR X (compareOp .NotIn) (fun x y H Q => ∃ i j, x = .str i ∧ y = .str j ∧ Q (.bl (!(!(Builtin.Str.occurrences j i 0 j.length 1).isEmpty))) H) := by
 intro pins s σ H x y v u Q I rx ry h
 obtain ⟨i, j, rfl, rfl, q⟩ := h
 obtain ⟨t, rfl⟩ := rx
 obtain ⟨t', rfl⟩ := ry
 exact notIn_str (Lm I q rfl)
theorem OpR.or (h : OpR X f r) (h' : OpR X f r') : OpR X f (fun x y H Q => r x y H Q ∨ r' x y H Q) := by
 intro pins s σ H x y v u Q I rx ry q
 rcases q with q | q
 · exact h pins s σ H x y v u Q I rx ry q
 · exact h' pins s σ H x y v u Q I rx ry q
theorem Fu (b : Expr) (h : op ≠ .In := by decide) (h2 : op ≠ .NotIn := by decide) : behindInMarks op b = false := by
 have e1 : (op == CmpOp.In) = false := by cases op <;> first | rfl | exact absurd rfl h
 have e2 : (op == CmpOp.NotIn) = false := by cases op <;> first | rfl | exact absurd rfl h2
 cases b <;> simp [behindInMarks, e1, e2]
theorem Jr {op : CmpOp} {r : R2} (ho : OpR X (compareOp op) r) (ha : PE X a ta) (hb : PE X b tb) (hm : behindInMarks op b = false) : PE X (.Compare a [op] [b] pos) (tOp r ta tb) := by
 intro pins s σ H Q I h
 exact wpAny_Compare1 (Ll ha hb I h fun v u s2 x y H2 I2 rx ry q => ho pins s2 σ H2 x y v u Q I2 rx ry q) hm
def og (t : TE) : TT := fun σ H Q => t σ H fun x H' => ∃ k, x = .bl k ∧ Q k H'
theorem gm {op : CmpOp} {r : R2} (ho : OpR X (compareOp op) r) (ha : PE X a ta) (hb : PE X b tb) (hm : behindInMarks op b = false) : PT X (.Compare a [op] [b] pos) (og (tOp r ta tb)) := by
 intro pins s σ H Q I h
 refine wpAny_isTrue_Compare1 (thn (ha pins s σ H _ I h) fun v s1 ⟨x, H1, I1, r1, q1⟩ => thn (hb pins s1 σ H1 _ I1 q1) fun u s2 ⟨y, H2, I2, r2, q2⟩ =>
  thn (ho pins s2 σ H2 x y v u _ I2 r1 r2 q2) fun c s3 ⟨z, H3, I3, r3, k, e, q3⟩ => ?_) hm
 subst e
 cases r3
 exact wpAny_truthy_bool ⟨H3, I3, q3⟩
def Ln (r r' : R2) (ta tb tc : TE) : TE := fun σ H Q => ta σ H fun x H1 => tb σ H1 fun y H2 => r x y H2 fun z H3 => ∃ k, z = .bl k ∧
 (if k = true then tc σ H3 fun w' H4 => r' y w' H4 Q else Q (.bl false) H3)
theorem Vm {op op' : CmpOp} {r r' : R2} (ho : OpR X (compareOp op) r) (ho' : OpR X (compareOp op') r') (ha : PE X a ta) (hb : PE X b tb) (hc : PE X c tc)
    (hm : lastMarks [op, op'] [b, c] = false := by with_unfolding_all rfl) : PE X (.Compare a [op, op'] [b, c] pos) (Ln r r' ta tb tc) := by
  intro pins s σ H Q I h
  refine Compare_chain (thn (ha pins s σ H _ I h) fun v s1 ⟨x, H1, I1, r1, q1⟩ => chain_link (thn (hb pins s1 σ H1 _ I1 q1) fun u s2 ⟨y, H2, I2, r2, q2⟩ =>
    thn (ho pins s2 σ H2 x y v u _ I2 r1 r2 q2) fun d s3 ⟨z, H3, I3, r3, k, e, q3⟩ => ?_)) hm
  subst e
  cases r3
  refine wpAny_truthy_bool ?_
  cases k with
  | false => exact ite_ff ⟨.bl false, H3, I3, rfl, q3⟩
  | true => exact ite_tt (chain_last (thn (hc pins s3 σ H3 _ I3 q3) fun w' s4 ⟨z', H4, I4, r4, q4⟩ => ho' pins s4 σ H4 y z' u w' Q I4 r2 r4 q4))
theorem vn {op op' : CmpOp} {r r' : R2} (ho : OpR X (compareOp op) r) (ho' : OpR X (compareOp op') r') (ha : PE X a ta) (hb : PE X b tb) (hc : PE X c tc)
    (hm : lastMarks [op, op'] [b, c] = false := by with_unfolding_all rfl) : PT X (.Compare a [op, op'] [b, c] pos) (og (Ln r r' ta tb tc)) := by
  intro pins s σ H Q I h
  refine isTrue_chain (thn (ha pins s σ H _ I h) fun v s1 ⟨x, H1, I1, r1, q1⟩ => test_link (thn (hb pins s1 σ H1 _ I1 q1) fun u s2 ⟨y, H2, I2, r2, q2⟩ =>
    thn (ho pins s2 σ H2 x y v u _ I2 r1 r2 q2) fun d s3 ⟨z, H3, I3, r3, k, e, q3⟩ => ?_)) hm
  subst e
  cases r3
  refine wpAny_truthy_bool ?_
  cases k with
  | false =>
    obtain ⟨k', e', q'⟩ := q3
    cases e'
    exact ite_ff ⟨H3, I3, q'⟩
  | true =>
    refine ite_tt (test_last (thn (hc pins s3 σ H3 _ I3 q3) fun w' s4 ⟨z', H4, I4, r4, q4⟩ => thn (ho' pins s4 σ H4 y z' u w' _ I4 r2 r4 q4) fun d' s5 ⟨z2, H5, I5, r5, k2, e2, q5⟩ => ?_))
    subst e2
    cases r5
    exact wpAny_truthy_bool ⟨H5, I5, q5⟩
def Lo (K : PySem.W.Frag) (x : V) (H : Hp) (k : Bool) : Prop :=
 match x with
 | .non => k = false
 | .bl b => k = b
 | .int i => k = (i != 0)
 | .str y => y.length ≤ sizeLine ∧ k = ((y.length : Int) != 0)
 | .byt y => y.size ≤ sizeLine ∧ k = ((y.size : Int) != 0)
 | .ref p => (∃ xs, SqL K H p xs ∧ k = !xs.isEmpty) ∨ (∃ xs, SqT K H p xs ∧ k = !xs.isEmpty) ∨ ∃ kvs, H p = some (.dK kvs) ∧ k = !kvs.isEmpty
 | _ => False
theorem Vn {κ : Type} {kvs : List (κ × V)} {vs : List (κ × Value)} (r : KV kvs vs) : (!vs.isEmpty) = !kvs.isEmpty := by
 cases r <;> rfl
theorem Og {xs : List V} {its : List Value} (r : Vals xs its) : (!its.toArray.isEmpty) = !xs.isEmpty := by
 cases r <;> simp
theorem Hx : (sizeLine : Nat) < 2 ^ 63 := by rw [sizeLine_eq]; decide
theorem vo : vg X (fun x H Q => ∃ k, Lo X.K x H k ∧ Q k H) := by
 intro pins s σ H x v Q I rx h
 obtain ⟨k, e, q⟩ := h
 have hl := Hx
 have hs : sizeLine = 16777216 := sizeLine_eq
 cases x with
 | non =>
  cases rx
  have e' : k = false := e
  subst e'
  exact truthy_none ⟨H, I, q⟩
 | bl b =>
  cases rx
  have e' : k = b := e
  subst e'
  exact wpAny_truthy_bool ⟨H, I, q⟩
 | int i =>
  obtain ⟨t, rfl⟩ := rx
  have e' : k = (i != 0) := e
  subst e'
  exact PySem.P.truthy_int ⟨H, I, q⟩
 | str y =>
  obtain ⟨t, rfl⟩ := rx
  obtain ⟨hy, e'⟩ : y.length ≤ sizeLine ∧ k = ((y.length : Int) != 0) := e
  subst e'
  exact PySem.P.truthy_str (by omega) ⟨H, I.tok _, q⟩
 | byt y =>
  obtain ⟨t, rfl⟩ := rx
  obtain ⟨hy, e'⟩ : y.size ≤ sizeLine ∧ k = ((y.size : Int) != 0) := e
  subst e'
  exact PySem.W.truthy_bytes (by omega) ⟨H, I.tok _, q⟩
 | ref p =>
  cases rx
  have e' : (∃ xs, SqL X.K H p xs ∧ k = !xs.isEmpty) ∨ (∃ xs, SqT X.K H p xs ∧ k = !xs.isEmpty) ∨ ∃ kvs, H p = some (.dK kvs) ∧ k = !kvs.isEmpty := e
  rcases e' with ⟨xs, hx, e'⟩ | ⟨xs, hx, e'⟩ | ⟨kvs, hx, e'⟩
  · subst e'
    obtain ⟨its, r, pl, hz⟩ := I.list hx
    have hlen := r.length
    exact wpAny_truthy_list pl.isList (by simp only [List.size_toArray]; omega) ⟨H, I.tok _, by rw [Og r]; exact q⟩
  · subst e'
    obtain ⟨its, r, pl, hz⟩ := I.tuple hx
    have hlen := r.length
    exact truthy_tuple pl (by simp only [List.size_toArray]; omega) ⟨H, I.tok _, by rw [Og r]; exact q⟩
  · subst e'
    obtain ⟨hz, hS, vs, r, m⟩ : kvs.length ≤ sizeLine ∧ (p == sysModules) = false ∧ ∃ vs, KV kvs vs ∧ s.heap.DictOf (cp X.prog X.w) p vs := I.hok p _ hx
    have hlen : kvs.length = vs.length := Paired.length r
    exact wpAny_truthy_dict hS m (by omega) ⟨H, I.tok _, by rw [Vn r]; exact q⟩
 | _ => exact (show False from e).elim
theorem Vo (ha : PE X a ta) (he : ∀ whole, isTrue a X.env whole = (do let v ← whole; standAt a.pos; holding [v] (truthy v))) :
    PT X a (fun σ H Q => ta σ H fun x H' => ∃ k, Lo X.K x H' k ∧ Q k H') := by
  intro pins s σ H Q I h
  exact isTrue_plain (thn (ha pins s σ H _ I h) fun v s1 ⟨x, H1, I1, r1, q1⟩ => vo pins s1 σ H1 x v Q I1 r1 q1) (he _)
theorem vp : OpR X (binaryOp .Add) (fun x y H Q => ∃ i j, x = .str i ∧ y = .str j ∧ i.length + j.length ≤ sizeLine ∧ Q (.str (i ++ j)) H) := by
 intro pins s σ H x y v u Q I rx ry h
 obtain ⟨i, j, rfl, rfl, hz, q⟩ := h
 obtain ⟨t, rfl⟩ := rx
 obtain ⟨t', rfl⟩ := ry
 exact add_str (fun t' tk => ⟨.str (i ++ j), H, I.tok _, ⟨_, rfl⟩, q⟩) hz
theorem vals1 (r : Vals [x] us) : ∃ u, us = [u] ∧ RelV x u := by
 cases r with
 | cons r1 r2 => cases r2; exact ⟨_, rfl, r1⟩
theorem vals2 (r : Vals [x, y] us) : ∃ u w', us = [u, w'] ∧ RelV x u ∧ RelV y w' := by
 cases r with
 | cons r1 r2 =>
  cases r2 with
  | cons r3 r4 => cases r4; exact ⟨_, _, rfl, r1, r3⟩
theorem Vp : df X (.builtin "abs") (fun xs H Q => ∃ i, xs = [.int i] ∧ Q (.int (if i < 0 then -i else i)) H) := by
 intro pins s σ H xs us Q I r h
 obtain ⟨i, rfl, q⟩ := h
 obtain ⟨u, rfl, t, rfl⟩ := vals1 r
 exact call_abs_int fun u tk => ⟨.int (if i < 0 then -i else i), H, I.tok _, ⟨_, rfl⟩, q⟩
end
structure ObjM (h : Heap) (x dx C : Addr) (mA : Str → Option Value) : Prop where
 obj : h.get? x = some (PySem.W.instObj C dx)
 ns : h.Ns1 dx mA
 ne : dx ≠ x
theorem vq {h : Heap} {dx : Addr} {mA : Str → Option Value} (n : h.Ns1 dx mA) : ∃ od, h.get? dx = some od ∧ ∀ name, PySem.W.lookIn name od = some (mA name) := by
 obtain ⟨o, es, ep, ho, hd, hk, _, hm⟩ := n
 refine ⟨o, ho, fun name => ?_⟩
 have e := hm name
 unfold nsFind findBy at e
 rw [← Array.find?_toList] at e
 unfold PySem.W.lookIn
 rw [hd]
 dsimp only
 split
 · rename_i y q
   rw [q] at e
   exact congrArg some e
 · rename_i q
   rw [q] at e
   have a : es.toList.any (·.refKey) = false := by
    rw [List.any_eq_false]
    intro y hy
    obtain ⟨z, t, hkey⟩ := hk y (Array.mem_toList_iff.mp hy)
    simp [DictEntry.refKey, hkey]
   have a' : ¬ es.toList.any (·.refKey) = true := by rw [a]; exact Bool.false_ne_true
   rw [if_neg a']
   exact congrArg some e
theorem ObjM.look (I : ObjM h x dx C mA) : ∃ od, PySem.W.InstAt h x (PySem.W.instObj C dx) C (some od) ∧ ∀ name, PySem.W.lookIn name od = some (mA name) :=
 let ⟨od, ho, hl⟩ := vq I.ns
 ⟨od, ⟨I.obj, rfl, rfl, ho⟩, hl⟩
section
variable {prog : Program} {w : World} {A : Around} {E : Value → Shared → Prop} {s : Shared} {K : PySem.W.Frag} {x dx C f : Addr} {mA : Str → Option Value} {name : Str} {v : Value}
theorem get_map (X : K.In s.heap) (I : ObjM s.heap x dx C mA) (hg : PySem.W.plainGet K C name = true) (hh : PySem.W.hasDictIn K C = true)
    (ha : PySem.W.findIn K (.ref C) name = some none) (hv : mA name = some v) (hv' : PySem.W.handedIn v = true) (h : Q v { s with toks := s.toks + 1 }) :
    wpAny (model prog w) A (getAttr (.ref x) name expr) Q E s := by
  obtain ⟨od, J, hl⟩ := I.look
  exact PySem.W.get_value X J (PySem.W.plainGet_of hg).1 (PySem.W.findObj_own hh ha rfl (by rw [hl, hv])) hv' h
theorem Vq (X : K.In s.heap) (I : ObjM s.heap x dx C mA) (hg : PySem.W.plainGet K C name = true)
    (hf : PySem.W.findIn K (.ref C) name = some (some (.ref f))) (ht : PySem.W.isFn K (.ref f) = true) (hv : mA name = none) (h : Q (.ref f, [.ref x]) s) :
    wpAny (model prog w) A (getMethod (.ref x) name pl) Q E s := by
  obtain ⟨od, J, hl⟩ := I.look
  exact PySem.W.method_fn X J (PySem.W.plainGet_of hg).1 (PySem.W.plainGet_of hg).2 hf (beq_iff_eq.mp ht) (by show (PySem.W.lookIn name od).map (·.isSome) = some false; rw [hl, hv]; rfl) h
theorem Vr (X : K.In s.heap) (I : ObjM s.heap x dx C mA)
    (hs : PySem.W.findIn K (.ref C) "__setattr__" = some (some (.builtin "object.__setattr__"))) (hp : PySem.W.plainOver K C = true) (ht : PySem.W.takerIn K C name = some none) (hh : PySem.W.hasDictIn K C = true)
    (hw : PySem.Within mA ns) (hsz : ns.length ≤ sizeLine)
    (h : ∀ h', ObjM h' x dx C (fun y => if y = name then some v else mA y) → Heap.SameBut dx s.heap h' → Q () { s with heap := h', toks := s.toks + 2 }) :
    wpAny (model prog w) A (setAttr (.ref x) name v) Q E s := by
  obtain ⟨od, J, hl⟩ := I.look
  refine PySem.W.set_plain X J hs (PySem.W.osa_open (s := { s with toks := s.toks + 1 }) (r := none) X J hp ht fun b => ?_)
  obtain ⟨cd, hc, hd'⟩ := PySem.W.any_some hh
  have hx : s.heap.get? x = some ⟨.ref C, some dx, .plain, #[]⟩ := I.obj
  refine wpAny_bind (wpAny_pure (wpAny_bind (wpAny_bind (wpAny_loadPart hx (wpAny_bind (PySem.W.Looks.here (s := { s with toks := s.toks + 1 }) (PySem.W.looks_clsIn X hc) ?_))))))
  rw [hd']
  refine wpAny_pure (a := some dx) (wpAny_bind (wpAny_pure (wpAny_bind ?_)))
  refine wpAny_nsSet1 (s := { s with toks := s.toks + 1 }) I.ns fun h' hn2 hs2 => ?_
  obtain ⟨oD, esD, epD, hoD, hdD, hcD⟩ := hn2.count (PySem.Within.cons name v hw)
  refine wpAny_bind (wpAny_lookBehind hoD (by rw [hdD]; exact pastItsLine_dict (Nat.le_trans hcD (by rw [List.length_cons]; omega))) ?_)
  exact wpAny_pure (h _ ⟨(hs2.2 _ (Ne.symm I.ne)).trans I.obj, hn2, I.ne⟩ hs2)
theorem Vs (X : K.In s.heap) (hm : PySem.W.makesIn K C = true)
    (hi : PySem.W.findIn K (.ref C) "__init__" = some (some (.ref f))) (hf : PySem.W.typeIn K (.ref f) = some (.type "function"))
    (h : codeAny (model prog w) (A.under (.builtin "type.__call__" ⟨.ref C :: vs, kw⟩)) (.call (.ref f) ⟨.ref (s.heap.objs.size + 1) :: vs, kw⟩) (PySem.W.InitBack (s.heap.objs.size + 1) R)
      { s with heap := (s.heap.push PySem.W.emptyDict).push (PySem.W.instObj C s.heap.objs.size) }) :
    codeAny (model prog w) A (.call (.ref C) ⟨vs, kw⟩) R s := by
  obtain ⟨hh, g, d, t, os⟩ := s
  exact PySem.W.make_core (PySem.W.makes_of X hm) (PySem.W.looks_findIn X hi) (fun self => PySem.W.bind_fn X self hf) (.inl rfl) h
end
def bw (f : Str) (v : V) : List (Str × V) → List (Str × V)
 | [] => [(f, v)]
 | (g, x) :: r => if g = f then (g, v) :: r else (g, x) :: bw f v r
theorem lp (f g : Str) (v : V) : ∀ fs : List (Str × V), (bw f v fs).lookup g = if g = f then some v else fs.lookup g
 | [] => by
  show List.lookup g [(f, v)] = _
  by_cases h : g = f
  · have hb : (g == f) = true := beq_iff_eq.mpr h
    simp only [List.lookup, hb, if_pos h]
  · have hb : (g == f) = false := beq_eq_false_iff_ne.mpr h
    simp only [List.lookup, hb, if_neg h]
 | (k, x) :: r => by
  have ih := lp f g v r
  rw [show bw f v ((k, x) :: r) = (if k = f then (k, v) :: r else (k, x) :: bw f v r) from rfl]
  by_cases hk : k = f
  · rw [if_pos hk]
    by_cases h : g = k
    · have hb : (g == k) = true := beq_iff_eq.mpr h
      simp only [List.lookup, hb, if_pos (h.trans hk)]
    · have hb : (g == k) = false := beq_eq_false_iff_ne.mpr h
      simp only [List.lookup, hb, if_neg (fun e : g = f => h (e.trans hk.symm))]
  · rw [if_neg hk]
    by_cases h : g = k
    · have hb : (g == k) = true := beq_iff_eq.mpr h
      simp only [List.lookup, hb, if_neg (fun e : g = f => hk (h.symm.trans e))]
    · have hb : (g == k) = false := beq_eq_false_iff_ne.mpr h
      simp only [List.lookup, hb]
      exact ih
theorem Lp (f : Str) (v : V) : ∀ fs : List (Str × V), f ∈ (bw f v fs).map (·.1) ∧ ∀ g, g ∈ fs.map (·.1) → g ∈ (bw f v fs).map (·.1)
 | [] => ⟨by simp [bw], fun g h => by simp at h⟩
 | (k, x) :: r => by
  obtain ⟨i1, i2⟩ := Lp f v r
  rw [show bw f v ((k, x) :: r) = (if k = f then (k, v) :: r else (k, x) :: bw f v r) from rfl]
  by_cases hk : k = f
  · rw [if_pos hk]
    subst hk
    exact ⟨by simp, fun g h => by simpa using h⟩
  · rw [if_neg hk]
    refine ⟨?_, fun g h => ?_⟩
    · rw [List.map_cons]
      exact List.mem_cons_of_mem _ i1
    · rw [List.map_cons] at h ⊢
      rcases List.mem_cons.mp h with e | e
      · exact List.mem_cons.mpr (.inl e)
      · exact List.mem_cons_of_mem _ (i2 g e)
theorem oh (f : Str) (v : V) : ∀ fs : List (Str × V), (bw f v fs).length ≤ fs.length + 1
 | [] => by simp [bw]
 | (k, x) :: r => by
  have ih := oh f v r
  rw [show bw f v ((k, x) :: r) = (if k = f then (k, v) :: r else (k, x) :: bw f v r) from rfl]
  by_cases hk : k = f
  · rw [if_pos hk, List.length_cons, List.length_cons]; omega
  · rw [if_neg hk, List.length_cons, List.length_cons]; omega
theorem De.some_of (r : De (some v) o) : ∃ u, o = some u ∧ RelV v u := by
 cases o with
 | none => exact (show False from r).elim
 | some u => exact ⟨u, rfl, r⟩
theorem De.none_of (r : De none o) : o = none := by
 cases o with
 | none => rfl
 | some u => exact (show False from r).elim
theorem vt (r : RelV v u) : PySem.W.handedIn u = true := by
 cases v with
 | non => cases (show u = Value.none from r); rfl
 | bl b => cases (show u = Value.bool b from r); rfl
 | int i => obtain ⟨t, e⟩ := (show ∃ t, u = Value.int i t from r); cases e; rfl
 | str x => obtain ⟨t, e⟩ := (show ∃ t, u = Value.str x t from r); cases e; rfl
 | byt b => obtain ⟨t, e⟩ := (show ∃ t, u = Value.bytes b t from r); cases e; rfl
 | flt b => obtain ⟨t, e⟩ := (show ∃ t, u = Value.float b t from r); cases e; rfl
 | ref a => cases (show u = Value.ref a from r); rfl
 | ty n => cases (show u = Value.type n from r); rfl
section
variable {P : Program} {w : World} {H H' : Hp} {h h' : Heap} {a C dx : Addr} {fs fs' : List (Str × V)}
theorem lq (hok : HOk P w H h) (e : H a = some (.ins C dx fs)) : ∃ mA, ObjM h a dx C mA ∧ (∀ f, De (fs.lookup f) (mA f)) ∧ PySem.Within mA (fs.map (·.1)) ∧ fs.length ≤ 1000 ∧ H dx = some (.own a) := by
 obtain ⟨d, z, ne, ob, mA, n, r, q⟩ := (show Bk P w H h a (.ins C dx fs) from hok a _ e)
 exact ⟨mA, ⟨ob, n, ne⟩, r, q, z, d⟩
end
structure Cls (K : PySem.W.Frag) (C : Addr) : Prop where
 pg : PySem.W.plainGet K C Str.empty = true
 hd : PySem.W.hasDictIn K C = true
 po : PySem.W.plainOver K C = true
 sa : PySem.W.findIn K (.ref C) "__setattr__" = some (some (.builtin "object.__setattr__"))
theorem Cls.get {K : PySem.W.Frag} {C : Addr} (c : Cls K C) (f : Str) : PySem.W.plainGet K C f = true := c.pg
def cu (K : PySem.W.Frag) (C : Addr) (f : Str) : Prop := PySem.W.findIn K (.ref C) f = some none
theorem cu.taker {K : PySem.W.Frag} {C : Addr} {f : Str} (n : cu K C f) : PySem.W.takerIn K C f = some none := by
 unfold PySem.W.takerIn
 rw [show PySem.W.findIn K (.ref C) f = some none from n]
 rfl
structure Meth (K : PySem.W.Frag) (C : Addr) (m : Str) (f : Addr) : Prop where
 at_ : PySem.W.findIn K (.ref C) m = some (some (.ref f))
 fn : PySem.W.isFn K (.ref f) = true
 kp : PySem.W.keepIn K (.ref f) = true
section
variable {X : Cx} {pins : List (Addr × Obj)} {σ : St} {H : Hp} {s : Shared} {a C dx : Addr} {fs : List (Str × V)} {f : Str} {v : V} {A : Around} {E : Value → Shared → Prop}
theorem Vt (I : Inv X pins σ H s) (e : H a = some (.ins C dx fs)) (c : Cls X.K C) (n : cu X.K C f) (l : fs.lookup f = some v)
    (h : ∀ u s', Inv X pins σ H s' → RelV v u → Q u s') : wpAny (model X.prog X.w) A (getAttr (.ref a) f b) Q E s := by
  obtain ⟨mA, O, r, _, _, _⟩ := lq I.hok e
  obtain ⟨u, hu, ru⟩ := De.some_of (v := v) (o := mA f) (by rw [← l]; exact r f)
  exact get_map I.kIn O (c.get f) c.hd n hu (vt ru) (h u _ (I.tok _) ru)
theorem Vu (I : Inv X pins σ H s) (e : H a = some (.ins C dx fs)) (c : Cls X.K C) (k : Meth X.K C m g) (l : fs.lookup m = none)
    (h : Q (.ref g, [.ref a]) s) : wpAny (model X.prog X.w) A (getMethod (.ref a) m pl) Q E s := by
  obtain ⟨mA, O, r, _, _, _⟩ := lq I.hok e
  have hn : mA m = none := De.none_of (by rw [← l]; exact r m)
  exact Vq I.kIn O (c.get m) k.at_ k.fn hn h
theorem Vv (I : Inv X pins σ H s) (e : H a = some (.ins C dx fs)) (c : Cls X.K C) (n : cu X.K C f) (hl : fs.length < 1000) (ry : RelV y u)
    (h : ∀ s', Inv X pins σ (upd H a (.ins C dx (bw f y fs))) s' → Q () s') : wpAny (model X.prog X.w) A (setAttr (.ref a) f u) Q E s := by
  obtain ⟨mA, O, r, wi, _, ho⟩ := lq I.hok e
  have hz : (fs.map (·.1)).length ≤ sizeLine := by rw [List.length_map, sizeLine_eq]; omega
  refine Vr I.kIn O c.sa c.po n.taker c.hd wi hz fun h' O' sb => h _ ?_
  have hd : ∃ o, h'.get? dx = some o := let ⟨o, _, _, e', _⟩ := O'.ns; ⟨o, e'⟩
  refine I.write (x := a) (e := dx) (by rw [e]; exact True.intro) (.inr ho) (fun b q hb z => (sb.2 b hb).trans z) hd ?_
  refine ⟨by rw [Be O.ne]; exact ho, ?_, O.ne, O'.obj, _, O'.ns, fun g => ?_, fun g hg => ?_⟩
  · have := oh f y fs; omega
  · show De ((bw f y fs).lookup g) (if g = f then some u else mA g)
    rw [lp]
    by_cases q : g = f
    · rw [if_pos q, if_pos q]; exact ry
    · rw [if_neg q, if_neg q]; exact r g
  · by_cases q : g = f
    · rw [q]; exact (Lp f y fs).1
    · refine (Lp f y fs).2 g (wi g fun z => hg ?_)
      show (if g = f then some u else mA g) = none
      rw [if_neg q]; exact z
theorem Inv.made (I : Inv X pins σ H s) : Inv X pins σ (upd (upd H s.heap.objs.size (.own (s.heap.objs.size + 1))) (s.heap.objs.size + 1) (.ins C s.heap.objs.size []))
    { s with heap := (s.heap.push PySem.W.emptyDict).push (PySem.W.instObj C s.heap.objs.size) } := by
  have e1 : (s.heap.push PySem.W.emptyDict).get? s.heap.objs.size = some PySem.W.emptyDict := Heap.get?_push_size s.heap rfl
  have e2 : ((s.heap.push PySem.W.emptyDict).push (PySem.W.instObj C s.heap.objs.size)).get? (s.heap.objs.size + 1) = some (PySem.W.instObj C s.heap.objs.size) := by
    have := Heap.get?_push_size (s.heap.push PySem.W.emptyDict) (o := PySem.W.instObj C s.heap.objs.size) rfl
    rwa [Heap.size_push] at this
  have e3 : (s.heap.push PySem.W.emptyDict).Ns s.heap.objs.size (fun _ => none) := ⟨PySem.W.emptyDict, #[], _, e1, rfl, (fun e he => absurd he (by simp)), fun _ => rfl⟩
  have I1 := I.laid (a := s.heap.objs.size) (o := .own (s.heap.objs.size + 1)) (h' := s.heap.push PySem.W.emptyDict) (t' := s.toks) (fun b u q => Heap.get?_push_of_some _ q) (Nat.le_refl _) ⟨_, e1⟩
  refine I1.laid (a := s.heap.objs.size + 1) (o := .ins C s.heap.objs.size []) (t' := s.toks) (fun b u q => Heap.get?_push_of_some _ q) (Nat.le_of_eq (Heap.size_push _ _)) ?_
  have ne : s.heap.objs.size ≠ s.heap.objs.size + 1 := Nat.ne_of_lt (Nat.lt_succ_self _)
  refine ⟨by rw [Be ne, cj], Nat.zero_le _, ne, e2, fun _ => none, (Heap.Ns1.of_empty e3).at fun o q => Heap.get?_push_of_some _ q, fun _ => True.intro, fun y hy => absurd rfl hy⟩
theorem vw (hb : attributeBase e f env (eval e env) = eval e env)
    (h : wpAny (model prog w) A (eval e env) (fun o s₁ => wpAny (model prog w) A (getAttr o f true) Q E s₁) E s) : wpAny (model prog w) A (eval (.Attribute e f pos) env) Q E s :=
  Attribute_any_ h (by rw [arm_eval_Attribute, hb])
end
def Vw (K : PySem.W.Frag) (ta : TE) (f : Str) : TE := fun σ H Q => ta σ H fun x H1 => ∃ a C dx fs v, x = .ref a ∧ H1 a = some (.ins C dx fs) ∧ Cls K C ∧ cu K C f ∧ fs.lookup f = some v ∧ Q v H1
def Vx (K : PySem.W.Frag) (ta tv : TE) (f : Str) : TS := fun D σ H => tv σ H fun y H1 => ta σ H1 fun x H2 => ∃ a C dx fs, x = .ref a ∧ H2 a = some (.ins C dx fs) ∧ Cls K C ∧ cu K C f ∧ fs.length < 1000 ∧
 D.nx σ (upd H2 a (.ins C dx (bw f y fs)))
section
variable {X : Cx} {o e value : Expr} {f : Str} {pos pos' tpos : Pos} {ta tv : TE}
theorem vy (he : PE X e ta) (hb : attributeBase e f X.env (eval e X.env) = eval e X.env) : PE X (.Attribute e f pos) (Vw X.K ta f) := by
 intro pins s σ H Q I h
 refine vw hb (thn (he pins s σ H _ I h) fun u s1 ⟨x, H1, I1, rx, a, C, dx, fs, v, ex, ea, c, n, l, q⟩ => ?_)
 subst ex
 obtain rfl : u = Value.ref a := rx
 exact Vt I1 ea c n l fun u' s2 I2 ru => ⟨v, H1, I2, ru, q⟩
theorem Vy (ha : PE X o ta) (hv : PE X value tv) (hs : swapsWith value (some (.Attribute o f pos')) pos.line X.env = pure false) : PS X (.Assign [.Attribute o f pos'] value pos) (Vx X.K ta tv f) := by
 intro pins s σ H D I h
 refine plainObj_wpAny_Assign_Attribute (thn (hv pins s σ H _ I h) fun u s1 ⟨y, H1, I1, ry, q⟩ => thn (ha pins s1 σ H1 _ I1 q) fun ov s2 ⟨x, H2, I2, rx, a, C, dx, fs, ex, ea, c, n, l, q2⟩ => ?_) hs
 subst ex
 obtain rfl : ov = Value.ref a := rx
 exact Vv I2 ea c n l ry fun s3 I3 => ⟨σ, _, I3, q2⟩
end
section
variable {X : Cx} {pins : List (Addr × Obj)} {σ : St} {H : Hp} {s : Shared} {A : Around} {E : Value → Shared → Prop} {Q : Value → Shared → Prop} {c : Value} {b : Bool}
end
structure Room (k : Nat) (A : Around) : Prop where
 hd : A.handled = none
 dp : A.depth + 3 * k + 5 < recursionLimit
 un : A.units + 16 * k + 200 < cLine
theorem Room.mono (r : Room k A) (h : j ≤ k) : Room j A := ⟨r.hd, by have := r.dp; omega, by have := r.un; omega⟩
theorem Room.deeper (r : Room (k + 1) A) (env : Env) : Room k (A.deeper env) :=
 ⟨r.hd, by have := r.dp; show A.depth + 1 + 3 * k + 5 < _; omega, by have := r.un; show A.units + 3 + 16 * k + 200 < _; omega⟩
theorem vz {A : Around} {C : Addr} {us : List Value} {kw : List (Str × Value)} : (A.under (.builtin "type.__call__" ⟨.ref C :: us, kw⟩)).depth = A.depth + 1 := by
 first | rfl | simp [Around.under, Code.weight, Code.isCreation, Code.isGuard, Code.isCaller, Code.frames, Code.isFrame, guardIds]
theorem Vz {A : Around} {C : Addr} {us : List Value} {kw : List (Str × Value)} : (A.under (.builtin "type.__call__" ⟨.ref C :: us, kw⟩)).units = A.units + 1 := by
 first | rfl | simp [Around.under, Code.cUnits, Code.frames, Code.isFrame]
theorem Room.make (r : Room (k + 1) A) (C : Addr) (us : List Value) (kw : List (Str × Value)) : Room k (A.under (.builtin "type.__call__" ⟨.ref C :: us, kw⟩)) :=
 ⟨r.hd, by have := r.dp; rw [vz]; omega, by have := r.un; rw [Vz]; omega⟩
theorem Room.depth (r : Room k A) : A.depth < recursionLimit := by have := r.dp; omega
theorem Room.units (r : Room k A) : A.units + 64 < cLine := by have := r.un; omega
def js : TA := fun _ H Q => Q [] H
def Js (ta : TE) (tr : TA) : TA := fun σ H Q => ta σ H fun x H1 => tr σ H1 fun xs H2 => Q (x :: xs) H2
section
variable {X : Cx} {e : Expr} {es : List Expr} {te : TE} {t : TA} {pos : Pos}
theorem Hy : PA X [] js := fun _ _ _ _ H Q I h => Calls.spliced_nil ⟨[], H, I, .nil, h⟩
theorem Ee (ha : PE X e te) (hr : PA X es t) (hs : starEach (e :: es) X.env = (false, eval e X.env) :: starEach es X.env := by rfl) : PA X (e :: es) (Js te t) := by
 intro pos pins s σ H Q I h
 rw [hs]
 show wpAny _ _ (spliced ((false, eval e X.env) :: backTo pos (starEach es X.env))) _ _ s
 refine Calls.spliced_cons (thn (ha pins s σ H _ I h) fun u s1 ⟨x, H1, I1, r1, q1⟩ => ?_)
 exact thn (hr pos pins s1 σ H1 _ I1 q1) fun us s2 ⟨xs, H2, I2, r2, q2⟩ => ⟨x :: xs, H2, I2, .cons r1 r2, q2⟩
def wa (t : TA) : TE := fun σ H Q => t σ H fun xs H1 => xs.length ≤ sizeLine ∧ ∀ p, H1 p = none → Q (.ref p) (upd H1 p (.tup xs))
def Wa (t : TA) : TE := fun σ H Q => t σ H fun xs H1 => xs.length ≤ sizeLine ∧ ∀ p, H1 p = none → Q (.ref p) (upd H1 p (.lst xs))
theorem wb {x1} (h : PA X es t) : PE X (.Tuple es x1 pos) (wa t) := by
 intro pins s σ H Q I hq
 refine wpAny_Tuple_spliced (thn (h pos pins s σ H _ I hq) fun us s1 ⟨xs, H1, I1, r, z, q⟩ => ⟨by rw [← r.length]; exact z, ?_⟩)
 have hf : H1 s1.heap.objs.size = none := I1.hok.fresh (Nat.le_refl _)
 refine ⟨.ref s1.heap.objs.size, upd H1 s1.heap.objs.size (.tup xs), I1.laid (t' := s1.toks) (fun b u e => Heap.get?_push_of_some _ e) (Nat.le_refl _) ?_, rfl, q _ hf⟩
 exact ⟨z, us, r, ⟨_, Heap.get?_push_size _ rfl, rfl, _, rfl⟩⟩
theorem Wb (h : PA X es t) : PE X (.List es pos) (Wa t) := by
 intro pins s σ H Q I hq
 refine wpAny_List_spliced (thn (h pos pins s σ H _ I hq) fun us s1 ⟨xs, H1, I1, r, z, q⟩ => ⟨by rw [← r.length]; exact z, ?_⟩)
 have hf : H1 s1.heap.objs.size = none := I1.hok.fresh (Nat.le_refl _)
 refine ⟨.ref s1.heap.objs.size, upd H1 s1.heap.objs.size (.lst xs), I1.laid (t' := s1.toks) (fun b u e => Heap.get?_push_of_some _ e) (Nat.le_refl _) ?_, rfl, q _ hf⟩
 exact ⟨z, us, 0, r, Heap.get?_push_size _ rfl⟩
end
abbrev Sp := List V → Hp → VK → XK → Prop
abbrev CXT := List Env → Hp → Shared → XK → Value → Shared → Prop
structure Env0 (P : Program) (w : World) (K : PySem.W.Frag) (mg : Str → Option Value) (base : Heap) (A : Around) (outer : List Env) (s : Shared) (H : Hp) : Prop where
 frames : A.frames = some outer
 mod : Mod K mg base
 bs : ∀ b o, base.get? b = some o → s.heap.get? b = some o ∧ H b = none
 bsz : base.objs.size ≤ s.heap.objs.size
 funs : s.heap.FunFrames base outer
 frf : ∀ b ∈ frs outer, H b = none
 hok : HOk P w H s.heap
 bare : AllBare s.gens
def CE (outer : List Env) (P : Program) (w : World) (H : Hp) (s : Shared) (Q : VK) (u : Value) (s' : Shared) : Prop :=
 ∃ v H', s'.os = s.os ∧ AllBare s'.gens ∧ Un (frs outer) [] H H' s.heap s'.heap ∧ HOk P w H' s'.heap ∧ RelV v u ∧ Q v H'
def CR (CX : CXT) (outer : List Env) (P : Program) (w : World) (H : Hp) (s : Shared) (Q : VK) (E : XK) (r : Result) (s' : Shared) : Prop :=
 match r with
 | .ok (.ret u) => CE outer P w H s Q u s'
 | .ok _ => False
 | .error e => CX outer H s E e s'
structure FnOk (P : Program) (w : World) (K : PySem.W.Frag) (mg : Str → Option Value) (base : Heap) (CX : CXT) (k : Nat) (f : Addr) (fd : FuncData) (ps : List Str) (sp : Sp) : Prop where
 len : ∀ vs H Q E, sp vs H Q E → vs.length = ps.length
 run : ∀ (A : Around) (outer : List Env) (s : Shared) (H : Hp) (args : Args) (us : List Value) (vs : List V) (Q : VK) (E : XK), Room k A → Env0 P w K mg base A outer s H → BindsTo s fd args (ps.zip us) → Vals vs us → sp vs H Q E →
  codeAny (model P w) A (.call (.ref f) args) (CR CX outer P w H s Q E) s
theorem FnOk.imp {P : Program} {w : World} {K : PySem.W.Frag} {mg : Str → Option Value} {base : Heap} {CX : CXT} {k : Nat} {f : Addr} {fd : FuncData} {ps : List Str} {sp sp' : Sp} (F : FnOk P w K mg base CX k f fd ps sp)
    (h : ∀ vs H Q E, sp' vs H Q E → sp vs H Q E) : FnOk P w K mg base CX k f fd ps sp' :=
  ⟨fun vs H Q E q => F.len vs H Q E (h _ _ _ _ q), fun A outer s H args us vs Q E hr he hb hv hs => F.run A outer s H args us vs Q E hr he hb hv (h _ _ _ _ hs)⟩
theorem Env0.make {P : Program} {w : World} {K : PySem.W.Frag} {mg : Str → Option Value} {base : Heap} {A : Around} {outer : List Env} {s : Shared} {H : Hp} (e : Env0 P w K mg base A outer s H) (C : Addr) (us : List Value) (kw : List (Str × Value)) :
    Env0 P w K mg base (A.under (.builtin "type.__call__" ⟨.ref C :: us, kw⟩)) outer s H := ⟨by first | exact e.frames | (simpa [Around.under, Code.envs, Code.isFrame, pushEnvs] using e.frames), e.mod, e.bs, e.bsz, e.funs, e.frf, e.hok, e.bare⟩
section
variable {X : Cx} {pins : List (Addr × Obj)} {σ : St} {H : Hp} {s s' : Shared}
theorem Inv.env0 (I : Inv X pins σ H s) : Env0 X.prog X.w X.K X.mg X.base X.A X.stack s H :=
 ⟨I.ok.frames, I.ok.mod, I.bs, Nat.le_trans I.ok.bsz I.sz, I.stack, I.stkFree, I.hok, I.bare⟩
theorem Inv.after (I : Inv X pins σ H s) (h : CE X.stack X.prog X.w H s Q u s') : EP X pins σ Q u s' := by
 obtain ⟨v, H', os, bare, un, hok, r, q⟩ := h
 obtain ⟨hh, g, d, t, os'⟩ := s'
 obtain rfl : os' = s.os := os
 exact ⟨v, H', I.call (h' := hh) (g' := g) (d' := d) (t' := t) (ch := []) un hok bare (fun b z => absurd z (by simp)), r, q⟩
end
def Oh (sp : Sp) (dvs : List V) (E : XK) (t : TA) : TE := fun σ H Q => t σ H fun vs H1 => sp (vs ++ dvs) H1 Q E
def wc (C : Addr) (m : Str) (sp : Sp) (dvs : List V) (E : XK) (ta : TE) (t : TA) : TE := fun σ H Q => ta σ H fun x H1 => ∃ a dx fs, x = .ref a ∧ H1 a = some (.ins C dx fs) ∧ fs.lookup m = none ∧
 t σ H1 fun vs H2 => sp (x :: (vs ++ dvs)) H2 Q E
def Wc (C : Addr) (sp : Sp) (dvs : List V) (E : XK) (t : TA) : TE := fun σ H Q => t σ H fun vs H1 => ∀ x dx, H1 x = none → H1 dx = none → dx ≠ x →
 sp (.ref x :: (vs ++ dvs)) (upd (upd H1 dx (.own x)) x (.ins C dx [])) (fun v H2 => v = .non ∧ Q (.ref x) H2) E
def Binds (K : PySem.W.Frag) (fd : FuncData) (ps : List Str) (ds : List Value) : Prop :=
 ∀ (s : Shared) (us : List Value), K.In s.heap → (us ++ ds).length = ps.length → BindsTo s fd ⟨us, []⟩ (ps.zip (us ++ ds))
theorem Binds.all {K : PySem.W.Frag} {fd : FuncData} {ps : List Str} (h : ∀ us : List Value, us.length = ps.length → bindArgs fd ⟨us, []⟩ = pure (ps.zip us)) : Binds K fd ps [] := fun s us _ hl => by
 rw [List.append_nil] at hl ⊢
 exact .of_eq (h us hl)
def Passes (CX : CXT) (X : Cx) (E : XK) : Prop := ∀ (pins : List (Addr × Obj)) (σ : St) (H : Hp) (s : Shared) (e : Value) (s' : Shared), Inv X pins σ H s → CX X.stack H s E e s' → X.xe e s'
section
variable {X : Cx} {CX : CXT} {k : Nat} {f C : Addr} {fd : FuncData} {ps : List Str} {sp : Sp} {dvs : List V} {ds : List Value} {E : XK} {x m : Str} {p pos apos : Pos} {e o : Expr} {es : List Expr} {ta : TE} {t : TA}
theorem jt {σ : St} (F : FnOk X.prog X.w X.K X.mg X.base CX k f fd ps sp) (hr : Room k X.A) (hb : Binds X.K fd ps ds) (hd : Vals dvs ds) (hx : Passes CX X E)
    (I : Inv X pins σ H s) (r : Vals vs us) (h : sp (vs ++ dvs) H Q E) : wpAny (model X.prog X.w) X.A (call (.ref f) us) (EP X pins σ Q) X.xe s := by
  have r2 : Vals (vs ++ dvs) (us ++ ds) := r.append hd
  have hl : (us ++ ds).length = ps.length := by rw [← r2.length]; exact F.len _ _ _ _ h
  refine wpAny_call (codeAny_mono (F.run X.A X.stack s H ⟨us, []⟩ (us ++ ds) (vs ++ dvs) Q E hr I.env0 (hb s us I.kIn hl) r2 h) fun r s' hq => ?_)
  cases r with
  | error e => exact hx pins σ H s e s' I hq
  | ok fl =>
    cases fl with
    | ret u => exact I.after hq
    | next => exact False.elim hq
    | brk => exact False.elim hq
    | cont => exact False.elim hq
theorem Wd (F : FnOk X.prog X.w X.K X.mg X.base CX k f fd ps sp) (hr : Room k X.A) (hg : Gl X x) (hm : X.mg x = some (.ref f)) (hk : PySem.W.keepIn X.K (.ref f) = true) (hb : Binds X.K fd ps ds) (hd : Vals dvs ds) (hx : Passes CX X E)
    (ha : PA X (e :: es) t) (hdb : (x == ("__debug__" : Str)) = false := by decide) (he : starEach (e :: es) X.env = (false, eval e X.env) :: starEach es X.env := by rfl) (hpl : (backTo pos (starEach es X.env)).any (·.1) = false := by rfl) :
    PE X (.Call (.Name x p) (e :: es) [] pos) (Oh sp dvs E t) := by
  intro pins s σ H Q I h
  refine wpAny_Call_Name_kw (Ht I hg hm ?_ hdb)
  refine PySem.W.callWith_K (h₀ := X.base) I.ok.mod.kin hk (thn (ha pos pins s σ H _ I h) fun us s1 ⟨vs, H1, I1, r, q⟩ => ⟨I1.kIn, ?_⟩) he hpl
  exact jt F hr hb hd hx I1 r q
theorem we (F : FnOk X.prog X.w X.K X.mg X.base CX k f fd ps sp) (hr : Room k X.A) (hg : Gl X x) (hm : X.mg x = some (.ref f)) (hk : PySem.W.keepIn X.K (.ref f) = true) (hb : Binds X.K fd ps ds) (hd : Vals dvs ds) (hx : Passes CX X E)
    (hdb : (x == ("__debug__" : Str)) = false := by decide) : PE X (.Call (.Name x p) [] [] pos) (Oh sp dvs E js) := by
  intro pins s σ H Q I h
  refine wpAny_Call_Name_kw (Ht I hg hm ?_ hdb)
  exact PySem.W.callWith_K0 I.kIn hk (jt (us := []) F hr hb hd hx I .nil h)
theorem We {pl : Sem Bool} (he : PE X o ta) (c : Cls X.K C) (hm : Meth X.K C m f) (F : FnOk X.prog X.w X.K X.mg X.base CX k f fd ps sp) (hr : Room k X.A) (hb : Binds X.K fd ps ds) (hd : Vals dvs ds) (hx : Passes CX X E) (ha : PA X (e :: es) t)
    (hst : starEach (e :: es) X.env = (false, eval e X.env) :: starEach es X.env := by rfl) (hpl : (backTo pos (starEach es X.env)).any (·.1) = false := by rfl)
    (ht : eval (.Call (.Attribute o m apos) (e :: es) [] pos) X.env = (do
      let ov ← eval o X.env
      standAt apos.atName
      let (f, first) ← holding [ov] (getMethod ov m pl)
      callWith pos f first (backTo pos (starEach (e :: es) X.env)) (backToKw pos (keywordEach [] X.env))) := by rfl) :
    PE X (.Call (.Attribute o m apos) (e :: es) [] pos) (wc C m sp dvs E ta t) := by
  intro pins s σ H Q I h
  refine PySem.W.methodCall_KW (pl := pl) (thn (he pins s σ H _ I h) fun u s1 ⟨x, H1, I1, rx, a, dx, fs, ex, ea, l, q⟩ => ?_) ht
  subst ex
  obtain rfl : u = Value.ref a := rx
  refine Vu I1 ea c hm l ?_
  refine PySem.W.callWith_K (first := [.ref a]) (h₀ := X.base) I.ok.mod.kin hm.kp (thn (ha pos pins s1 σ H1 _ I1 q) fun us s2 ⟨vs, H2, I2, r, q2⟩ => ⟨I2.kIn, ?_⟩) hst hpl
  exact jt (us := .ref a :: us) (vs := .ref a :: vs) F hr hb hd hx I2 (.cons rfl r) q2
structure Mk (K : PySem.W.Frag) (C f : Addr) : Prop where
 makes : PySem.W.makesIn K C = true
 init : PySem.W.findIn K (.ref C) "__init__" = some (some (.ref f))
 fn : PySem.W.isFn K (.ref f) = true
 kp : PySem.W.keepIn K (.ref C) = true
theorem Wf {σ : St} (M : Mk X.K C f) (F : FnOk X.prog X.w X.K X.mg X.base CX k f fd ps sp) (hr : Room (k + 1) X.A) (hb : Binds X.K fd ps ds) (hd : Vals dvs ds)
    (hx : Passes CX X E) (I : Inv X pins σ H s) (r : Vals vs us)
    (h : ∀ x dx, H x = none → H dx = none → dx ≠ x → sp (.ref x :: (vs ++ dvs)) (upd (upd H dx (.own x)) x (.ins C dx [])) (fun v H2 => v = .non ∧ Q (.ref x) H2) E) :
    wpAny (model X.prog X.w) X.A (call (.ref C) us) (EP X pins σ Q) X.xe s := by
  have hq := h (s.heap.objs.size + 1) s.heap.objs.size (I.hok.fresh (Nat.le_succ _)) (I.hok.fresh (Nat.le_refl _)) (Nat.ne_of_lt (Nat.lt_succ_self _))
  have I2 := Inv.made (C := C) I
  have r2 : Vals (V.ref (s.heap.objs.size + 1) :: (vs ++ dvs)) (Value.ref (s.heap.objs.size + 1) :: (us ++ ds)) := .cons rfl (r.append hd)
  have hl : (Value.ref (s.heap.objs.size + 1) :: us ++ ds).length = ps.length := by
    have e := r2.length
    rw [F.len _ _ _ _ hq] at e
    exact e.symm
  refine wpAny_call (Vs (f := f) I.kIn M.makes M.init (beq_iff_eq.mp M.fn) (codeAny_mono (F.run _ X.stack _ _ ⟨Value.ref (s.heap.objs.size + 1) :: us, []⟩ (Value.ref (s.heap.objs.size + 1) :: (us ++ ds)) _ _ E (hr.make C us [])
    (I2.env0.make C us []) (hb _ (Value.ref (s.heap.objs.size + 1) :: us) I2.kIn hl) r2 hq) fun r s' hq' => ?_))
  cases r with
  | error e => exact hx pins σ _ _ e s' I2 hq'
  | ok fl =>
    cases fl with
    | ret u =>
      obtain ⟨v, H', I3, rv, ev, q3⟩ := I2.after hq'
      subst ev
      exact ⟨rv, ⟨V.ref (s.heap.objs.size + 1), H', I3, rfl, q3⟩⟩
    | next => exact False.elim hq'
    | brk => exact False.elim hq'
    | cont => exact False.elim hq'
theorem wg (M : Mk X.K C f) (F : FnOk X.prog X.w X.K X.mg X.base CX k f fd ps sp) (hr : Room (k + 1) X.A) (hg : Gl X x) (hm : X.mg x = some (.ref C)) (hb : Binds X.K fd ps ds) (hd : Vals dvs ds) (hx : Passes CX X E)
    (ha : PA X (e :: es) t) (hdb : (x == ("__debug__" : Str)) = false := by decide) (he : starEach (e :: es) X.env = (false, eval e X.env) :: starEach es X.env := by rfl) (hpl : (backTo pos (starEach es X.env)).any (·.1) = false := by rfl) :
    PE X (.Call (.Name x p) (e :: es) [] pos) (Wc C sp dvs E t) := by
  intro pins s σ H Q I h
  refine wpAny_Call_Name_kw (Ht I hg hm ?_ hdb)
  refine PySem.W.callWith_K (h₀ := X.base) I.ok.mod.kin M.kp (thn (ha pos pins s σ H _ I h) fun us s1 ⟨vs, H1, I1, r, q⟩ => ⟨I1.kIn, ?_⟩) he hpl
  exact Wf M F hr hb hd hx I1 r q
end
section
variable {X : Cx} {CX : CXT} {k : Nat} {f C : Addr} {fd : FuncData} {ps ks : List Str} {sp : Sp} {E : XK} {x m : Str} {p pos apos kpos : Pos} {e o : Expr} {es : List Expr} {kws : List Keyword} {te ta : TE} {t tk : TA} {nm : Option Str}
variable {g : List Value → List Value → List Value} {gV : List V → List V → List V}
end
structure FnScope (N P : List Str) (sc : Scope) : Prop where
 kind : sc.kind = .function
 co : sc.isCoroutine = false
 gen : sc.isGenerator = false
 nd : N.Nodup
 pre : N.take P.length = P
 par : ∀ x ∈ P, sc.names.lookup x = some .local ∨ sc.names.lookup x = some .cell
 nofree : ∀ y ∈ sc.names, y.2 ≠ .free
theorem oi {kindOf : Str → Option NameKind} {x : Str} : ∀ {binds : List (Str × Value)} {m : Str → Option Value}, (∀ v, (x, v) ∉ binds) → bindL kindOf binds m x = m x
 | [], _, _ => rfl
 | (n, v) :: r, m, h => by
  unfold bindL
  rw [oi fun w hw => h w (List.mem_cons_of_mem _ hw)]
  split
  · have : x ≠ n := by rintro rfl; exact h v List.mem_cons_self
    simp [this]
  · rfl
theorem Oi {kindOf : Str → Option NameKind} {x : Str} : ∀ {binds : List (Str × Value)} {m : Str → Option Value}, (∀ v, (x, v) ∉ binds) → bindC kindOf binds m x = m x
 | [], _, _ => rfl
 | (n, v) :: r, m, h => by
  unfold bindC
  rw [Oi fun w hw => h w (List.mem_cons_of_mem _ hw)]
  split
  · rfl
  · have : x ≠ n := by rintro rfl; exact h v List.mem_cons_self
    simp [this]
theorem Oj {kindOf : Str → Option NameKind} {x : Str} {v : Value} : ∀ {P : List Str} {vs : List Value} {i : Nat} {m : Str → Option Value}, P.Nodup → P[i]? = some x → vs[i]? = some v → kindOf x = some .local →
    bindL kindOf (P.zip vs) m x = some v
  | [], _, _, _, _, h, _, _ => by simp at h
  | _ :: _, [], _, _, _, _, h, _ => by simp at h
  | p :: P, w :: vs, 0, m, nd, h1, h2, hk => by
    simp at h1 h2; subst h1; subst h2
    show bindL kindOf ((p, w) :: P.zip vs) m p = _
    unfold bindL
    rw [oi fun v hv => (List.nodup_cons.mp nd).1 (List.of_mem_zip hv).1, if_pos hk]
    simp
  | p :: P, w :: vs, i + 1, m, nd, h1, h2, hk => by
    show bindL kindOf ((p, w) :: P.zip vs) m x = _
    unfold bindL
    exact Oj (i := i) (List.nodup_cons.mp nd).2 (by simpa using h1) (by simpa using h2) hk
theorem Ol {kindOf : Str → Option NameKind} {x : Str} {v : Value} : ∀ {P : List Str} {vs : List Value} {i : Nat} {m : Str → Option Value}, P.Nodup → P[i]? = some x → vs[i]? = some v → kindOf x ≠ some .local →
    bindC kindOf (P.zip vs) m x = some v
  | [], _, _, _, _, h, _, _ => by simp at h
  | _ :: _, [], _, _, _, _, h, _ => by simp at h
  | p :: P, w :: vs, 0, m, nd, h1, h2, hk => by
    simp at h1 h2; subst h1; subst h2
    show bindC kindOf ((p, w) :: P.zip vs) m p = _
    unfold bindC
    rw [Oi fun v hv => (List.nodup_cons.mp nd).1 (List.of_mem_zip hv).1, if_neg hk]
    simp
  | p :: P, w :: vs, i + 1, m, nd, h1, h2, hk => by
    show bindC kindOf ((p, w) :: P.zip vs) m x = _
    unfold bindC
    exact Ol (i := i) (List.nodup_cons.mp nd).2 (by simpa using h1) (by simpa using h2) hk
def start (N : List Str) (vs : List V) : St := vs.map some ++ List.replicate (N.length - vs.length) none
def dw (CX : CXT) (P : Program) (w : World) (K : PySem.W.Frag) (mg : Str → Option Value) (base : Heap) (N : List Str) (qual : Str) (scope : Scope) (f : Addr) (cd : Value) (A : Around) (outer : List Env) (s : Shared) (H : Hp) (E : XK) : Cx where
 prog := P
 w := w
 K := K
 mg := mg
 base := base
 A := A.deeper (envOfC qual scope s.heap.objs.size f cd)
 N := N
 s₀ := s
 H₀ := H
 env := envOfC qual scope s.heap.objs.size f cd
 outer := outer
 stack := envOfC qual scope s.heap.objs.size f cd :: outer
 ex := []
 calm := true
 fn := fun _ => true
 pn := []
 xe := fun e s' => wpAny (model P w) (A.deeper (envOfC qual scope s.heap.objs.size f cd)) (leaving (envOfC qual scope s.heap.objs.size f cd) e) (fun _ s'' => CX outer H s E e s'') (fun e' s'' => CX outer H s E e' s'') s'
theorem om {sc : Scope} {n : Nat} {x : Str} (h : sc.names.lookup x = some .cell) : ∃ c, (cellsFrom n sc.names []).lookup x = some c := by
 have q := PySem.W.cellsFrom_some sc.names n [] (.inl h)
 exact Option.isSome_iff_exists.mp q
theorem Wg {CX : CXT} {P : Program} {w : World} {K : PySem.W.Frag} {mg : Str → Option Value} {base : Heap} {N ps : List Str} {qual : Str} {scope : Scope} {f : Addr} {cd : Value} {A : Around} {outer : List Env} {s s1 : Shared} {H : Hp} {E : XK} {us : List Value} {vs : List V}
    (S : FnScope N ps scope) (hd : A.handled = none) (e0 : Env0 P w K mg base A outer s H) (hl : vs.length = ps.length) (r : Vals vs us)
    (x : InCallC s s.heap.objs.size (bindL (envOfC qual scope s.heap.objs.size f cd).kindOf (ps.zip us) fun _ => none) (cellsFrom (s.heap.objs.size + 1) scope.names []) (bindC (envOfC qual scope s.heap.objs.size f cd).kindOf (ps.zip us) fun _ => none) s1) :
    Inv (dw CX P w K mg base N qual scope f cd A outer s H E) [] (start N vs) H s1 := by
  have hpl : ps.length ≤ N.length := by have := congrArg List.length S.pre; rw [List.length_take] at this; omega
  obtain ⟨h1, tk, rfl, hk⟩ := x.done
  have noA : ∀ b : Addr, b ∉ (dw CX P w K mg base N qual scope f cd A outer s H E).ex := fun b z => absurd (show b ∈ ([] : List Addr) from z) (by simp)
  refine ⟨⟨e0.mod, S.kind, rfl, rfl, Nat.le_refl _, fun y z c h1 h2 => ?_, fun y hy => ?_, fun y c _ h => ?_, fun _ => hd, Around.frames_deeper e0.frames, .inr ⟨rfl, rfl⟩, fun b z => absurd z (noA b), e0.bs, e0.bsz, fun b _ _ => noA b, fun b z => absurd z (noA b), e0.funs, e0.frf⟩,
    rfl, e0.bare, Un.kept hk, ⟨_, x.toInCall.ns, fun i y v h1 h2 h3 => ?_⟩, fun y c h => ⟨_, x.cell y c h⟩, e0.hok.fresh (Nat.le_refl _), fun y c h => ?_, fun p hp => absurd (show p ∈ ([] : List (Addr × Obj)) from hp) (by simp), e0.hok.kept hk, ?_⟩
  · exact name_of_addr x.apart (PySem.mem_of_lookup h1) (PySem.mem_of_lookup h2)
  · have hy : scope.names.lookup y = some .cell ∨ scope.names.lookup y = some .free := hy
    rcases hy with hy | hy
    · exact om hy
    · exact absurd rfl (S.nofree _ (PySem.mem_of_lookup hy))
  · exact Nat.le_of_lt (x.above y c (PySem.mem_of_lookup h))
  · have hi : i < vs.length := by
      unfold start at h2
      by_cases hi : i < vs.length
      · exact hi
      · rw [List.getElem?_append_right (by simpa using hi)] at h2
        rw [List.getElem?_replicate] at h2
        split at h2 <;> cases h2
    have ha : vs[i]? = some v := by
      unfold start at h2
      rw [List.getElem?_append_left (by simpa using hi), List.getElem?_map] at h2
      cases e : vs[i]? with
      | none => rw [e] at h2; cases h2
      | some a => rw [e] at h2; cases h2; rfl
    obtain ⟨u, hu, rv⟩ := r.get ha
    have hp : ps[i]? = some y := by
      rw [← S.pre, List.getElem?_take_of_lt (by omega)]; exact h1
    have ndP : ps.Nodup := by rw [← S.pre]; exact S.nd.sublist (List.take_sublist _ _)
    refine ⟨u, rv, ?_⟩
    rcases S.par y (List.mem_of_getElem? hp) with k | k
    · exact .inl ⟨k, Oj ndP hp hu k⟩
    · obtain ⟨c, e⟩ := om (n := s.heap.objs.size + 1) k
      refine .inr ⟨.inl k, c, e, ?_⟩
      have q := x.cell y c e
      rw [Ol ndP hp hu (by show scope.names.lookup y ≠ _; rw [k]; decide)] at q
      exact q
  · exact e0.hok.fresh (Nat.le_of_lt (x.above y c (PySem.mem_of_lookup h)))
  · unfold start
    show _ = N.length
    rw [List.length_append, List.length_map, List.length_replicate]
    omega
theorem Om {CX : CXT} {P : Program} {w : World} {K : PySem.W.Frag} {mg : Str → Option Value} {base : Heap} {k : Nat} {f : Addr} {name qual : Str} {params : Arguments} {body : List Stmt} {scope : Scope} {dV kV doc pm cdv ct oc : Value} {an od : Option Addr}
    {osl : Array (Option Value)} {N ps : List Str} {sp : Sp} (lk : K.lookup f = some ⟨oc, od, .func (PySem.W.fnOf name qual params body scope dV kV doc pm an cdv ct), osl⟩) (hcd : PySem.W.codeIn K cdv qual = true) (S : FnScope N ps scope)
    (len : ∀ vs H Q E, sp vs H Q E → vs.length = ps.length)
    (hbody : ∀ (A : Around) (outer : List Env) (s : Shared) (H : Hp) (vs : List V) (Q : VK) (E : XK), Room k (A.deeper (envOfC qual scope s.heap.objs.size f cdv)) → sp vs H Q E →
      ∃ t, PSs (dw CX P w K mg base N qual scope f cdv A outer s H E) body t ∧ t { nx := fun _ H' => Q .non H', rt := Q } (start N vs) H) :
    FnOk P w K mg base CX (k + 1) f (PySem.W.fnOf name qual params body scope dV kV doc pm an cdv ct) ps sp := by
  refine ⟨len, fun A outer s H args us vs Q E hr e0 hb r hsp => ?_⟩
  have hl := len _ _ _ _ hsp
  have KX : K.In s.heap := e0.mod.kin.keeps fun b o e => (e0.bs b o e).1
  have lim : s.heap.NoLimit := e0.mod.nolimit.keeps fun b o e => (e0.bs b o e).1
  have hkind : ∀ y ∈ ps.zip us, scope.names.lookup y.1 = some .local ∨ (scope.names.lookup y.1 = some .cell ∧ ((cellsFrom (s.heap.objs.size + 1) scope.names []).lookup y.1).isSome = true) := fun ⟨n, v⟩ hy => by
    rcases S.par n (List.of_mem_zip hy).1 with q | q
    · exact .inl q
    · exact .inr ⟨q, PySem.W.cellsFrom_some _ _ _ (.inl q)⟩
  refine codeAny_call_function hr.depth (KX _ _ lk) rfl S.co S.gen rfl (PySem.W.codeRec_of KX hcd) (hb _ _ _ _ ?_)
  refine wpAny_newFunctionEnv_cells S.kind hkind fun env he s1 x => ?_
  subst he
  refine ⟨lim.keeps x.toInCall.keep, codeAny_func ?_⟩
  obtain ⟨t, ht, hq⟩ := hbody A outer s H vs Q E (hr.deeper _) hsp
  have I : Inv (dw CX P w K mg base N qual scope f cdv A outer s H E) [] (start N vs) H s1 := Wg S hr.hd e0 hl r x
  refine wpAny_mono (ht [] s1 (start N vs) H _ I hq) (fun fl s' hs => ?_) fun e s' hs => hs
  have fin : ∀ {σ' : St} {H' : Hp} {v : V} {u : Value}, Inv (dw CX P w K mg base N qual scope f cdv A outer s H E) [] σ' H' s' → RelV v u → Q v H' → CE outer P w H s Q u s' :=
    fun {σ' H' v u} J rv q => ⟨v, H', J.os, J.bare, J.base, J.hok, rv, q⟩
  cases fl with
  | ret u =>
    obtain ⟨v, σ', H', J, rv, q⟩ := hs
    exact fin J rv q
  | next =>
    obtain ⟨σ', H', J, q⟩ := hs
    exact fin (v := V.non) (u := Value.none) J rfl q
  | brk =>
    obtain ⟨_, _, _, q⟩ := hs
    exact False.elim q
  | cont =>
    obtain ⟨_, _, _, q⟩ := hs
    exact False.elim q
section
variable {X : Cx} {x : Str} {p pos : Pos} {e : Expr} {es : List Expr} {t : TA} {id T : String} {r : List V → Hp → VK → Prop}
def tCB (r : List V → Hp → VK → Prop) (t : TA) : TE := fun σ H Q => t σ H fun vs H1 => r vs H1 Q
theorem Hz (hc : df X (.builtin id) r) (hg : Gl X x) (hm : X.mg x = none) (hv : bootBuiltins x = some (.builtin id)) (ha : PA X (e :: es) t) (hn : x ≠ "__name__" := by decide) (hdb : (x == ("__debug__" : Str)) = false := by decide)
    (he : starEach (e :: es) X.env = (false, eval e X.env) :: starEach es X.env := by rfl) (hpl : (backTo pos (starEach es X.env)).any (·.1) = false := by rfl) : PE X (.Call (.Name x p) (e :: es) [] pos) (tCB r t) := by
  intro pins s σ H Q I h
  refine wpAny_Call_Name_kw (Gk I hg hm hv ?_ hn hdb)
  exact PyProof.Rows.callWith_builtin1 (thn (ha pos pins s σ H _ I h) fun us s1 ⟨vs, H1, I1, r1, q1⟩ => hc pins s1 σ H1 vs us Q I1 r1 q1) he hpl
theorem oo (hc : df X (.type T) r) (hg : Gl X x) (hm : X.mg x = none) (hv : bootBuiltins x = some (.type T)) (ha : PA X (e :: es) t) (hn : x ≠ "__name__" := by decide) (hdb : (x == ("__debug__" : Str)) = false := by decide)
    (he : starEach (e :: es) X.env = (false, eval e X.env) :: starEach es X.env := by rfl) (hpl : (backTo pos (starEach es X.env)).any (·.1) = false := by rfl) : PE X (.Call (.Name x p) (e :: es) [] pos) (tCB r t) := by
  intro pins s σ H Q I h
  refine wpAny_Call_Name_kw (Gk I hg hm hv ?_ hn hdb)
  exact PyProof.Rows.callWith_type1 (thn (ha pos pins s σ H _ I h) fun us s1 ⟨vs, H1, I1, r1, q1⟩ => hc pins s1 σ H1 vs us Q I1 r1 q1) he hpl
end
end L2
namespace HT
open PySem PyProof.Rows
section
open PySem.SeqAt
open PySem.AutoSeq1 (wpAny_loadPart')
open PySem.MeetsSeq PySem.MeetsSeq2 PySem.MeetsSeq3
end
section
variable {prog : Program} {w : World} {A : Around} {E : Value → Shared → Prop} {s : Shared}
def sIx (n d : Nat) : Option Int → Nat
 | none => d
 | some v => if v < 0 then (v + (n : Int)).toNat else min v.toNat n
theorem Wh (n d : Nat) (hd : d ≤ n) (o : Option Int) : sIx n d o ≤ n := by
 cases o with
 | none => exact hd
 | some v =>
  show (if v < 0 then (v + (n : Int)).toNat else min v.toNat n) ≤ n
  by_cases hv : v < 0
  · rw [if_pos hv]; omega
  · rw [if_neg hv]; exact Nat.min_le_right _ _
theorem Oo (v : Int) (n d : Nat) : (if v < 0 then max (v + (n : Int)) 0 else min v (n : Int)) = ((sIx n d (some v) : Nat) : Int) := by
 show (if v < 0 then max (v + (n : Int)) 0 else min v (n : Int)) = (((if v < 0 then (v + (n : Int)).toNat else min v.toNat n) : Nat) : Int)
 by_cases hv : v < 0
 · simp only [if_pos hv]; omega
 · simp only [if_neg hv]; omega
theorem Wi (lo hi : Option Int) (n : Nat) : Builtin.Slice.sliceAdjust lo hi 1 (n : Int) = (((sIx n 0 lo : Nat) : Int), ((sIx n n hi : Nat) : Int)) := by
 have h1 : ¬ ((1 : Int) < 0) := by omega
 unfold Builtin.Slice.sliceAdjust
 simp only [h1, if_false]
 refine Prod.ext ?_ ?_
 · cases lo with
   | none => rfl
   | some v => exact Oo v n 0
 · cases hi with
   | none => rfl
   | some v => exact Oo v n n
theorem wj (i j : Nat) : Builtin.Slice.slicePlaces (i : Int) (j : Int) 1 = j - i := by
 unfold Builtin.Slice.slicePlaces
 have h1 : (1 : Int) > 0 := by omega
 simp only [h1, if_true, Int.ediv_one]
 split <;> omega
theorem oq (p : IsPart v o) (h : Q o s) : wpAny (model prog w) A (Builtin.Slice.slicePartIndex v) Q E s := by
 cases p with
 | none => exact slicePart_none h
 | int i t => exact slicePart_int h
theorem Oq {sl : Addr} {vl vu : Value} {lo hi : Option Int} {n : Nat} {Q : Int × Int × Nat → Shared → Prop} (hs : s.heap.IsSliceOf sl vl vu .none) (pl : IsPart vl lo) (pu : IsPart vu hi)
    (h : Q (((sIx n 0 lo : Nat) : Int), 1, sIx n n hi - sIx n 0 lo) s) : wpAny (model prog w) A (Builtin.Slice.sliceApplied (.ref sl) (pure (n : Int))) Q E s := by
  obtain ⟨os, hos, hcs, hds⟩ := id hs
  unfold Builtin.Slice.sliceApplied Builtin.Slice.sliceFields
  refine wpAny_bind (wpAny_bind (wpAny_field hos hds (x := vl) rfl (wpAny_bind (wpAny_field hos hds (x := vu) rfl (wpAny_bind (wpAny_field hos hds (x := .none) rfl (wpAny_pure ?_)))))))
  refine wpAny_bind (slicePart_none ?_)
  show wpAny _ _ (if ((1 : Int) == 0) = true then _ else _) _ _ s
  rw [if_neg (by decide)]
  refine wpAny_bind (oq pl (wpAny_bind (oq pu (wpAny_bind (wpAny_pure ?_)))))
  show wpAny _ _ (match Builtin.Slice.sliceAdjust lo hi 1 (n : Int) with | (lo, hi) => pure (lo, (1 : Int), Builtin.Slice.slicePlaces lo hi 1)) _ _ s
  rw [Wi lo hi n]
  show wpAny _ _ (pure (((sIx n 0 lo : Nat) : Int), (1 : Int), Builtin.Slice.slicePlaces ((sIx n 0 lo : Nat) : Int) ((sIx n n hi : Nat) : Int) 1)) _ _ s
  rw [wj]
  exact wpAny_pure h
theorem Wj (xs : Array Value) (i k : Nat) : ((List.range k).filterMap fun (m : Nat) => xs[((i : Int) + (m : Int) * 1).toNat]?).toArray = ((xs.toList.drop i).take k).toArray := by
 have e : (fun (m : Nat) => xs[((i : Int) + (m : Int) * 1).toNat]?) = fun m => xs[i + m]? := by
  funext m
  have : ((i : Int) + (m : Int) * 1).toNat = i + m := by omega
  rw [this]
 rw [e]
 have := pick_run xs i k
 rw [List.filterMap_map] at this
 have e2 : ((fun x => xs[x]?) ∘ fun x => i + x) = fun m => xs[i + m]? := rfl
 rw [e2] at this
 rw [this]
theorem Wk {t sl : Addr} {items : Array Value} {vl vu : Value} {lo hi : Option Int} {Q : Value → Shared → Prop} (ht : IsTup s.heap t items) (hs : s.heap.IsSliceOf sl vl vu .none) (pl : IsPart vl lo) (pu : IsPart vu hi)
    (hw : ¬ (sIx items.size 0 lo = 0 ∧ sIx items.size items.size hi = items.size))
    (h : Q (.ref s.heap.objs.size) { s with heap := s.heap.push { cls := .type "tuple", data := .seq ((items.toList.drop (sIx items.size 0 lo)).take (sIx items.size items.size hi - sIx items.size 0 lo)).toArray } })
    (hsz : items.size ≤ sizeLine) : wpAny (model prog w) A (getItem (.ref t) (.ref sl)) Q E s := by
  have htake : sizeOk (.seq ((items.toList.drop (sIx items.size 0 lo)).take (sIx items.size items.size hi - sIx items.size 0 lo)).toArray) := by
    show ((items.toList.drop (sIx items.size 0 lo)).take (sIx items.size items.size hi - sIx items.size 0 lo)).toArray.size ≤ sizeLine
    rw [List.size_toArray, List.length_take, List.length_drop, Array.length_toList]
    omega
  have hj : sIx items.size items.size hi ≤ items.size := Wh _ _ (Nat.le_refl _) hi
  obtain ⟨os, hos, hcs, hds⟩ := id hs
  have hTs : s.TypeIs (.ref sl) "slice" := ⟨os, hos, hcs⟩
  unfold getItem
  try with_reducible refine wpAny_holding ?_
  first | refine wpAny_bind (wpAny_pure ?_) | skip
  refine wpAny_bind (wpAny_sequenceKey ht.typeIs (by decide) ?_)
  refine wpAny_bind (wpAny_callSpecial?_slot (name := Str.ofString "__getitem__") ht.typeIs PyProof.Rows.slot_tuple_getitem
    (wpAny_call_entry PyProof.Rows.slot_tuple_getitem ht.typeIs entry_tuple_getitem ?_ (args_tuple_getitem _ _)))
  show wpAny _ _ (Builtin.Tuple.tupleItemsOf (.ref t) >>= _) _ _ s
  refine wpAny_bind (tupleItemsOf_ ht ?_)
  refine wpAny_bind (wpAny_typeOf hTs ?_)
  rw [if_pos (by decide)]
  refine wpAny_bind (Oq hs pl pu ?_)
  have hno : ¬ ((((sIx items.size 0 lo : Nat) : Int) == 0 && (1 : Int) == 1 && (sIx items.size items.size hi - sIx items.size 0 lo) == items.size) = true) := by
    intro q
    rw [Bool.and_eq_true, Bool.and_eq_true] at q
    have q1 : ((sIx items.size 0 lo : Nat) : Int) = 0 := eq_of_beq q.1.1
    have q2 : sIx items.size items.size hi - sIx items.size 0 lo = items.size := eq_of_beq q.2
    exact hw ⟨by omega, by omega⟩
  show wpAny _ _ (if (((sIx items.size 0 lo : Nat) : Int) == 0 && (1 : Int) == 1 && (sIx items.size items.size hi - sIx items.size 0 lo) == items.size) = true then _ else _) _ _ s
  rw [if_neg hno, Wj]
  first
    | exact wpAny_bind (m := Builtin.Tuple.tupleExact _) (wpAny_newObj_type (wpAny_pure ⟨_, rfl, wpAny_pure h⟩) htake)
    | exact wpAny_bind (m := Builtin.Tuple.tupleExact _) (wpAny_newObj_type (wpAny_bind (wpAny_pure (wpAny_pure ⟨_, rfl, wpAny_pure h⟩))) htake)
    | exact wpAny_bind (wpAny_bind (m := Builtin.Tuple.tupleExact _) (wpAny_newObj_type (wpAny_pure (wpAny_pure ⟨_, rfl, wpAny_pure h⟩)) htake))
    | exact wpAny_bind (wpAny_bind (m := Builtin.Tuple.tupleExact _) (wpAny_newObj_type (wpAny_pure ⟨_, rfl, wpAny_pure h⟩) htake))
end
end HT
namespace L2
open PySem PySem.Spec PyProof.Rows
abbrev TO := St → Hp → (Option Int → Hp → Prop) → Prop
def PO (X : Cx) (e : Option Expr) (t : TO) : Prop :=
 ∀ (pins : List (Addr × Obj)) (s : Shared) (σ : St) (H : Hp) (Q : Option Int → Hp → Prop), Inv X pins σ H s → t σ H Q →
  wpAny (model X.prog X.w) X.A (evalPart e X.env) (fun u s' => ∃ o H', Inv X pins σ H' s' ∧ IsPart u o ∧ Q o H') X.xe s
def Wl : TO := fun _ H Q => Q none H
def wm (t : TE) : TO := fun σ H Q => t σ H fun x H1 => ∃ i, x = .int i ∧ Q (some i) H1
section
variable {X : Cx} {e : Expr} {te : TE} {lo hi : Option Expr} {tl th : TO} {pos p2 : Pos}
theorem Wm : PO X none Wl := by
 intro pins s σ H Q I h
 rw [evalPart_none]
 exact wpAny_pure ⟨none, H, I, .none, h⟩
theorem Lq (h : PE X e te) : PO X (some e) (wm te) := by
 intro pins s σ H Q I hw
 rw [evalPart_some]
 refine thn (h pins s σ H _ I hw) fun u s1 ⟨x, H1, I1, r1, q1⟩ => ?_
 obtain ⟨i, rfl, q⟩ := q1
 obtain ⟨t, rfl⟩ := r1
 exact ⟨some i, H1, I1, .int i t, q⟩
def SlR (X : Cx) (r : V → Option Int → Option Int → Hp → VK → Prop) : Prop :=
 ∀ (pins : List (Addr × Obj)) (s : Shared) (σ : St) (H : Hp) (x : V) (v vl vu : Value) (lo hi : Option Int) (sl : Addr) (Q : VK), Inv X pins σ H s → RelV x v → s.heap.IsSliceOf sl vl vu .none → IsPart vl lo → IsPart vu hi → r x lo hi H Q →
  ∃ T id, typeLookup (.type T) "__getitem__" = pure (some (.builtin id)) ∧ s.TypeIs v T ∧ wpAny (model X.prog X.w) X.A (getItem v (.ref sl)) (EP X pins σ Q) X.xe s
theorem SlR.or (h : SlR X r) (h' : SlR X r') : SlR X (fun x lo hi H Q => r x lo hi H Q ∨ r' x lo hi H Q) := by
 intro pins s σ H x v vl vu lo hi sl Q I rx hs pl pu q
 rcases q with q | q
 · exact h pins s σ H x v vl vu lo hi sl Q I rx hs pl pu q
 · exact h' pins s σ H x v vl vu lo hi sl Q I rx hs pl pu q
def tSl (r : V → Option Int → Option Int → Hp → VK → Prop) (te : TE) (tl th : TO) : TE := fun σ H Q => te σ H fun x H1 => tl σ H1 fun l H2 => th σ H2 fun u H3 => r x l u H3 Q
theorem Ot (hr : SlR X r) (he : PE X e te) (hl : PO X lo tl) (hu : PO X hi th) : PE X (.Subscript e (.Slice lo hi none p2) pos) (tSl r te tl th) := by
 intro pins s σ H Q I h
 refine Subscript_ (thn (he pins s σ H _ I h) fun v s1 ⟨x, H1, I1, r1, q1⟩ => ?_)
 refine wpAny_Slice (thn (hl pins s1 σ H1 _ I1 q1) fun vl s2 ⟨l, H2, I2, pl, q2⟩ => thn (hu pins s2 σ H2 _ I2 q2) fun vu s3 ⟨u, H3, I3, pu, q3⟩ => ?_)
 rw [evalPart_none]
 refine wpAny_pure ?_
 have I4 : Inv X pins σ H3 { s3 with heap := s3.heap.push { cls := .type "slice", data := .fields #[vl, vu, .none] } } := I3.kept (t' := s3.toks) fun b ob q => Heap.get?_push_of_some _ q
 obtain ⟨T, id, hT, ht, hg⟩ := hr pins { s3 with heap := s3.heap.push { cls := .type "slice", data := .fields #[vl, vu, .none] } } σ H3 x v vl vu l u s3.heap.objs.size Q I4 r1 (Heap.IsSliceOf.new ..) pl pu q3
 show wpAny (model X.prog X.w) X.A (subscriptTail e (.Slice lo hi none p2) v (.ref s3.heap.objs.size)) (EP X pins σ Q) X.xe { s3 with heap := s3.heap.push { cls := .type "slice", data := .fields #[vl, vu, .none] } }
 exact tail_any (ops := [.ref s3.heap.objs.size, v]) ht hT hg (by with_unfolding_all rfl)
def Dn (xs : List V) (lo hi : Option Int) : List V := (xs.drop (HT.sIx xs.length 0 lo)).take (HT.sIx xs.length xs.length hi - HT.sIx xs.length 0 lo)
theorem lr (xs : List V) (lo hi : Option Int) : (Dn xs lo hi).length ≤ xs.length := by
 unfold Dn
 rw [List.length_take, List.length_drop]
 omega
def ou (K : PySem.W.Frag) : V → Option Int → Option Int → Hp → VK → Prop := fun x lo hi H Q => ∃ a xs, x = .ref a ∧ SqT K H a xs ∧
 ¬ (HT.sIx xs.length 0 lo = 0 ∧ HT.sIx xs.length xs.length hi = xs.length) ∧ ∀ p, H p = none → Q (.ref p) (upd H p (.tup (Dn xs lo hi)))
theorem Wn : SlR X (ou X.K) := by
 intro pins s σ H x v vl vu lo hi sl Q I rx hs pl pu h
 obtain ⟨a, xs, rfl, hx, hw, q⟩ := h
 cases rx
 obtain ⟨its, r, ht, hz⟩ := I.tuple hx
 have hlen : its.toArray.size = xs.length := by rw [List.size_toArray]; exact r.length.symm
 refine ⟨"tuple", _, PyProof.Rows.slot_tuple_getitem.lookup, ht.typeIs, ?_⟩
 refine HT.Wk ht hs pl pu (by rw [hlen]; exact hw) ?_ (by rw [hlen]; exact hz)
 rw [hlen]
 refine ⟨.ref s.heap.objs.size, _, I.laid (t' := s.toks) (o := .tup (Dn xs lo hi)) (fun b ob q => Heap.get?_push_of_some _ q) (Nat.le_refl _) ?_, rfl, q _ (I.hok.fresh (Nat.le_refl _))⟩
 exact ⟨Nat.le_trans (lr xs lo hi) hz, _, (r.drop (HT.sIx xs.length 0 lo)).take (HT.sIx xs.length xs.length hi - HT.sIx xs.length 0 lo), IsTup.new _ _⟩
end
def ixN (n : Nat) (i : Int) : Option Nat := if 0 ≤ i then (if i < n then some i.toNat else none) else if -(n : Int) ≤ i then some (i + n).toNat else none
def atI {α : Type} (xs : List α) (i : Int) : Option α := (ixN xs.length i).bind fun j => xs[j]?
theorem wo (h : ixN n i = some j) : seqIndex? i n = some j ∧ j < n ∧ -(n : Int) ≤ i ∧ i < n := by
 unfold ixN at h
 by_cases h0 : 0 ≤ i
 · rw [if_pos h0] at h
   by_cases h1 : i < n
   · rw [if_pos h1] at h
     have e : i.toNat = j := Option.some.inj h
     exact ⟨by rw [seqIndex_of h0 h1, e], by omega, by omega, h1⟩
   · rw [if_neg h1] at h; cases h
 · rw [if_neg h0] at h
   by_cases h1 : -(n : Int) ≤ i
   · rw [if_pos h1] at h
     have e : (i + n).toNat = j := Option.some.inj h
     exact ⟨by rw [seqIndex_neg (by omega) h1, e], by omega, h1, by omega⟩
   · rw [if_neg h1] at h; cases h
theorem Lr {α : Type} {xs : List α} {i : Int} {v : α} (h : atI xs i = some v) : ∃ j, seqIndex? i xs.length = some j ∧ xs[j]? = some v ∧ j < xs.length ∧ -(xs.length : Int) ≤ i ∧ i < xs.length := by
 unfold atI at h
 cases e : ixN xs.length i with
 | none => rw [e] at h; cases h
 | some j =>
  rw [e] at h
  obtain ⟨h1, h2, h3, h4⟩ := wo e
  exact ⟨j, h1, h, h2, h3, h4⟩
def Jt (b : Expr) : Prop := ∀ o i, subscripted b false o i = operate [o, i] (getItem o i)
def IxR (X : Cx) (r : R2) : Prop :=
 ∀ (value slice : Expr) (pins : List (Addr × Obj)) (s : Shared) (σ : St) (H : Hp) (x y : V) (v u : Value) (Q : VK), Inv X pins σ H s → RelV x v → RelV y u → r x y H Q →
  subscripted slice false v u = operate [v, u] (getItem v u) → wpAny (model X.prog X.w) X.A (subscriptTail value slice v u) (EP X pins σ Q) X.xe s
def MtR (X : Cx) (id : String) (r : V → List V → Hp → VK → Prop) : Prop :=
 ∀ (pins : List (Addr × Obj)) (s : Shared) (σ : St) (H : Hp) (x : V) (xs : List V) (v : Value) (us : List Value) (Q : VK), Inv X pins σ H s → RelV x v → Vals xs us → r x xs H Q →
  wpAny (model X.prog X.w) X.A (call (.builtin id) (v :: us)) (EP X pins σ Q) X.xe s
section
variable {X : Cx} {a b : Expr} {ta tb : TE} {pos : Pos}
theorem IxR.or (h : IxR X r) (h' : IxR X r') : IxR X (fun x y H Q => r x y H Q ∨ r' x y H Q) := by
 intro value slice pins s σ H x y v u Q I rx ry q hs
 rcases q with q | q
 · exact h value slice pins s σ H x y v u Q I rx ry q hs
 · exact h' value slice pins s σ H x y v u Q I rx ry q hs
theorem Ls (hr : IxR X r) (ha : PE X a ta) (hb : PE X b tb) (hs : Jt b) : PE X (.Subscript a b pos) (tOp r ta tb) := by
 intro pins s σ H Q I h
 exact Subscript_ (Ll ha hb I h fun v u s2 x y H2 I2 rx ry q => hr a b pins s2 σ H2 x y v u Q I2 rx ry q (hs _ _))
def Ou (K : PySem.W.Frag) : R2 := fun x y H Q => ∃ p xs i v, x = .ref p ∧ y = .int i ∧ SqL K H p xs ∧ atI xs i = some v ∧ Q v H
def Ov (K : PySem.W.Frag) : R2 := fun x y H Q => ∃ p xs i v, x = .ref p ∧ y = .int i ∧ SqT K H p xs ∧ atI xs i = some v ∧ Q v H
def ow : R2 := fun x y H Q => ∃ z i c, x = .str z ∧ y = .int i ∧ z.length ≤ sizeLine ∧ atI z.cps.toList i = some c ∧ Q (.str ⟨#[c]⟩) H
theorem Wo : IxR X (Ou X.K) := by
 intro value slice pins s σ H x y v u Q I rx ry h hs
 obtain ⟨p, xs, i, z, rfl, rfl, hq, he, q⟩ := h
 cases rx
 obtain ⟨t, rfl⟩ := ry
 obtain ⟨its, r, pl, hz⟩ := I.list hq
 obtain ⟨j, h1, h2, h3, h4, h5⟩ := Lr he
 obtain ⟨w, ew, rw'⟩ := r.get h2
 have hl := r.length
 have hn := Hx
 have fin : EP X pins σ Q w s := ⟨z, H, I, rw', q⟩
 by_cases h0 : 0 ≤ i
 · have hj : i.toNat = j := by
    rw [seqIndex_of h0 h5] at h1
    exact Option.some.inj h1
   exact item_listR pl.isList h0 (by omega) (by rw [hj]; simpa using ew) fin hs
 · have hj : (i + (its.toArray.size : Int)).toNat = j := by
    rw [seqIndex_neg (by omega) h4] at h1
    rw [List.size_toArray, ← hl]
    exact Option.some.inj h1
   exact subscriptTail_builtinR (x := w) pl.isList.typeIs slot_list_getitem.lookup
    (wpAny_getItem_list_neg (Q := fun r s' => r = w ∧ EP X pins σ Q r s') pl.isList (by omega) (by rw [List.size_toArray] <;> omega) (by omega) (by rw [hj]; simpa using ew) ⟨rfl, fin⟩) hs
theorem wq : IxR X (Ov X.K) := by
 intro value slice pins s σ H x y v u Q I rx ry h hs
 obtain ⟨p, xs, i, z, rfl, rfl, hq, he, q⟩ := h
 cases rx
 obtain ⟨t, rfl⟩ := ry
 obtain ⟨its, r, pl, hz⟩ := I.tuple hq
 obtain ⟨j, h1, h2, h3, h4, h5⟩ := Lr he
 obtain ⟨w, ew, rw'⟩ := r.get h2
 have hl := r.length
 have hn := Hx
 have fin : EP X pins σ Q w s := ⟨z, H, I, rw', q⟩
 exact subscriptTail_builtinR (x := w) pl.typeIs slot_tuple_getitem.lookup
  (getItem_tuple (j := j) (Q := fun r s' => r = w ∧ EP X pins σ Q r s') pl (by omega) (by omega) (by rw [List.size_toArray, ← hl]; exact h1) (by simpa using ew) ⟨rfl, fin⟩) hs
theorem Wq : IxR X ow := by
 intro value slice pins s σ H x y v u Q I rx ry h hs
 obtain ⟨z, i, c, rfl, rfl, hz, he, q⟩ := h
 obtain ⟨t, rfl⟩ := rx
 obtain ⟨t', rfl⟩ := ry
 obtain ⟨j, h1, h2, h3, h4, h5⟩ := Lr he
 have hl : z.cps.toList.length = z.length := by simp [Str.length]
 rw [hl] at h1 h4 h5
 have hn := Hx
 exact tail_any (typeIs_str s z t) slot_str_getitem.lookup (getItem_str (c := c) (by
  have e1 : decide (i < -(2 ^ 63 : Int)) = false := decide_eq_false (by omega)
  have e2 : decide (i ≥ 2 ^ 63) = false := decide_eq_false (by omega)
  rw [e1, e2, Bool.or_false]) (by rw [h1]; simpa using h2) ⟨.str ⟨#[c]⟩, H, I.tok _, ⟨_, rfl⟩, q⟩) hs
def rIx (K : PySem.W.Frag) : R2 := fun x y H Q => Ou K x y H Q ∨ Ov K x y H Q ∨ ow x y H Q
theorem Ws : IxR X (rIx X.K) := Wo.or (wq.or Wq)
theorem Inv.lst {σ : St} (I : Inv X pins σ H s) (h : H p = some (.lst xs)) :
    ∃ (its : List Value) (n : Nat), Vals xs its ∧ s.heap.get? p = some { cls := .type "list", data := .seq its.toArray n } ∧ xs.length ≤ sizeLine := by
  obtain ⟨z, its, n, r, e⟩ := I.hok p _ h
  exact ⟨its, n, r, e, z⟩
theorem wt (lo hi : Option Int) (n : Nat) : (sliceBounds lo hi none n).1 = ((HT.sIx n 0 lo : Nat) : Int) ∧ (sliceBounds lo hi none n).2.1 = ((HT.sIx n n hi : Nat) : Int) ∧ (sliceBounds lo hi none n).2.2 = 1 := by
 refine ⟨?_, ?_, rfl⟩
 · cases lo with
   | none => simp [sliceBounds, HT.sIx]
   | some i =>
    simp only [sliceBounds, HT.sIx, Option.getD_none, show (1 : Int) > 0 by decide, if_true]
    by_cases h : i < 0
    · simp only [h, if_true] <;> omega
    · simp only [h, if_false] <;> omega
 · cases hi with
   | none => simp [sliceBounds, HT.sIx]
   | some i =>
    simp only [sliceBounds, HT.sIx, Option.getD_none, show (1 : Int) > 0 by decide, if_true]
    by_cases h : i < 0
    · simp only [h, if_true] <;> omega
    · simp only [h, if_false] <;> omega
theorem Wt (its : List Value) (lo hi : Option Int) : slicePick its.toArray lo hi none = ((its.drop (HT.sIx its.length 0 lo)).take (HT.sIx its.length its.length hi - HT.sIx its.length 0 lo)).toArray := by
 obtain ⟨h1, h2, h3⟩ := wt lo hi its.toArray.size
 unfold slicePick
 rw [h1, h2, h3]
 simp only [sliceRange_one, pick_run, List.size_toArray] <;> rfl
def ju (K : PySem.W.Frag) : V → Option Int → Option Int → Hp → VK → Prop := fun x lo hi H Q => ∃ a xs, x = .ref a ∧ SqL K H a xs ∧ ∀ p, H p = none → Q (.ref p) (upd H p (.lst (Dn xs lo hi)))
theorem Ow : SlR X (ju X.K) := by
 intro pins s σ H x v vl vu lo hi sl Q I rx hs pl pu h
 obtain ⟨a, xs, rfl, hx, q⟩ := h
 cases rx
 obtain ⟨its, r, ht, hz⟩ := I.list hx
 have hlen := r.length
 refine ⟨"list", _, slot_list_getitem.lookup, ht.isList.typeIs, ?_⟩
 refine wpAny_getItem_list_slice ht.isList hs pl pu .none (by simp) ?_ (by rw [List.size_toArray] <;> omega)
 rw [Wt, ← hlen]
 refine ⟨.ref s.heap.objs.size, _, I.laid (t' := s.toks) (o := .lst (Dn xs lo hi)) (fun b ob q => Heap.get?_push_of_some _ q) (Nat.le_refl _) ?_, rfl, q _ (I.hok.fresh (Nat.le_refl _))⟩
 exact ⟨Nat.le_trans (lr xs lo hi) hz, _, 0, (r.drop (HT.sIx xs.length 0 lo)).take (HT.sIx xs.length xs.length hi - HT.sIx xs.length 0 lo), Heap.get?_push_size _ rfl⟩
noncomputable def eqV : V → V → Bool
 | .non, .non => true
 | .bl a, .bl b => a == b
 | .bl a, .int b => (if a then 1 else 0) == b
 | .int a, .bl b => a == (if b then 1 else 0)
 | .int a, .int b => a == b
 | .str a, .str b => a == b
 | _, _ => false
theorem wu : df X (.builtin "len") (fun xs H Q => ∃ p ys, xs = [.ref p] ∧ (SqL X.K H p ys ∨ SqT X.K H p ys) ∧ Q (.int ys.length) H) := by
 intro pins s σ H xs us Q I r h
 obtain ⟨p, ys, rfl, hq, q⟩ := h
 obtain ⟨u, rfl, rx⟩ := vals1 r
 cases rx
 have hn := Hx
 rcases hq with hq | hq
 · obtain ⟨its, r', pl, hz⟩ := I.list hq
   have hlen := r'.length
   exact Calls.call_len_list pl.isList (by simp only [List.size_toArray] <;> omega) ⟨.int ys.length, H, I.tok _, ⟨s.toks + 1, by rw [List.size_toArray, hlen]⟩, q⟩
 · obtain ⟨its, r', pl, hz⟩ := I.tuple hq
   have hlen := r'.length
   exact len_tuple pl (by simp only [List.size_toArray] <;> omega) ⟨.int ys.length, H, I.tok _, ⟨s.toks + 1, by rw [List.size_toArray, hlen]⟩, q⟩
theorem Wu : df X (.builtin "len") (fun xs H Q => ∃ z, xs = [.str z] ∧ z.length ≤ sizeLine ∧ Q (.int z.length) H) := by
 intro pins s σ H xs us Q I r h
 obtain ⟨z, rfl, hz, q⟩ := h
 obtain ⟨u, rfl, t, rfl⟩ := vals1 r
 have hn := Hx
 exact len_str (by omega) ⟨.int z.length, H, I.tok _, ⟨_, rfl⟩, q⟩
theorem df.or (h : df X f r) (h' : df X f r') : df X f (fun xs H Q => r xs H Q ∨ r' xs H Q) := by
 intro pins s σ H xs us Q I rs q
 rcases q with q | q
 · exact h pins s σ H xs us Q I rs q
 · exact h' pins s σ H xs us Q I rs q
theorem Wv : df X (.type "list") (fun xs H Q => ∃ p ys, xs = [.ref p] ∧ (SqL X.K H p ys ∨ SqT X.K H p ys) ∧ ∀ l, H l = none → Q (.ref l) (upd H l (.lst ys))) := by
  intro pins s σ H xs us Q I r h
  obtain ⟨p, ys, rfl, hq, q⟩ := h
  obtain ⟨u, rfl, rx⟩ := vals1 r
  cases rx
  have fin : ∀ (its : List Value), Vals ys its → ys.length ≤ sizeLine → ∀ (h' : Heap) (c' : Nat), (∀ b o', s.heap.get? b = some o' → h'.get? b = some o') →
      h'.get? s.heap.objs.size = some { cls := .type "list", dict := none, data := .seq its.toArray c', slots := #[] } → EP X pins σ Q (.ref s.heap.objs.size) { s with heap := h' } := fun its r' hz h' c' kp e =>
    ⟨.ref s.heap.objs.size, _, I.laid (t' := s.toks) kp (Nat.le_refl _) (show Bk X.prog X.w _ h' _ (.lst ys) from ⟨hz, its, c', r', e⟩), rfl, q _ (I.hok.fresh (Nat.le_refl _))⟩
  rcases hq with hq | hq
  · obtain ⟨its, r', pl, hz⟩ := I.list hq
    have hlen := r'.length
    obtain ⟨o, ho, hc, n, hd⟩ := pl.isList
    exact call_list_seq p (.inl rfl) ho hc hd (fun h' c' kp e => fin its r' hz h' c' kp e) (by simp only [List.size_toArray] <;> omega)
  · obtain ⟨its, r', pl, hz⟩ := I.tuple hq
    have hlen := r'.length
    obtain ⟨o, ho, hc, n, hd⟩ := pl
    exact call_list_seq p (.inr rfl) ho hc hd (fun h' c' kp e => fin its r' hz h' c' kp e) (by simp only [List.size_toArray] <;> omega)
theorem Ww : df X (.type "tuple") (fun xs H Q => ∃ p ys, xs = [.ref p] ∧ ((SqL X.K H p ys ∧ ∀ l, H l = none → Q (.ref l) (upd H l (.tup ys))) ∨ (SqT X.K H p ys ∧ Q (.ref p) H))) := by
 intro pins s σ H xs us Q I r h
 obtain ⟨p, ys, rfl, h⟩ := h
 obtain ⟨u, rfl, rx⟩ := vals1 r
 cases rx
 rcases h with ⟨hq, q⟩ | ⟨hq, q⟩
 · obtain ⟨its, r', pl, hz⟩ := I.list hq
   have hlen := r'.length
   refine call_tuple_list pl.isList (fun h' kp => ?_) (by simp only [List.size_toArray] <;> omega)
   have I1 : Inv X pins σ H { s with heap := h' } := I.kept (t' := s.toks) kp
   have I2 : Inv X pins σ (upd H h'.objs.size (.tup ys)) { s with heap := h'.push { cls := .type "tuple", data := .seq its.toArray } } :=
    I1.laid (t' := s.toks) (fun b o e => Heap.get?_push_of_some _ e) (Nat.le_refl _) (show Bk X.prog X.w _ _ _ (.tup ys) from ⟨hz, its, r', IsTup.new _ _⟩)
   exact ⟨.ref h'.objs.size, _, I2, rfl, q _ (I1.hok.fresh (Nat.le_refl _))⟩
 · obtain ⟨its, r', pl, hz⟩ := I.tuple hq
   exact call_tuple_same pl ⟨.ref p, H, I, rfl, q⟩
def tyV (K : PySem.W.Frag) (T : String) (x : V) (H : Hp) : Prop := match x with
  | .str _ => T = "str"
  | .int _ => T = "int"
  | .ref p => (T = "list" ∧ ∃ xs, SqL K H p xs) ∨ (T = "tuple" ∧ ∃ o, K.lookup p = some o ∧ o.cls = .type "tuple" ∧ o.dict = none) ∨
      (T = "dict" ∧ ((∃ kvs, H p = some (.dK kvs)) ∨ ∃ kvs, H p = some (.dT kvs))) ∨ (T = "set" ∧ ∃ S n, H p = some (.set S n))
  | _ => False
theorem wx {σ : St} (I : Inv X pins σ H s) (r : RelV x v) (ty : tyV X.K T x H) :
    s.TypeIs v T ∧ ∀ a, v = .ref a → ∃ ob, s.heap.get? a = some ob ∧ ob.dict = none := by
  cases x with
  | str z =>
    obtain ⟨t, rfl⟩ := r
    cases (show T = "str" from ty)
    exact ⟨typeIs_str s z t, fun _ e => nomatch e⟩
  | int i =>
    obtain ⟨t, rfl⟩ := r
    cases (show T = "int" from ty)
    exact ⟨typeIs_int s i t, fun _ e => nomatch e⟩
  | ref p =>
    cases r
    rcases ty with ⟨rfl, xs, hq⟩ | ⟨rfl, o, hk, hc, hd⟩ | ⟨rfl, hk⟩ | ⟨rfl, S, n, hk⟩
    · obtain ⟨its, _, pl, _⟩ := I.list hq
      refine ⟨pl.isList.typeIs, fun a e => ?_⟩
      cases e
      obtain ⟨o, n, e, c, hd, _⟩ := pl
      exact ⟨o, e, hd⟩
    · refine ⟨⟨o, I.kIn p o hk, hc⟩, fun a e => ?_⟩
      cases e
      exact ⟨o, I.kIn _ o hk, hd⟩
    · have z : ∃ o, s.heap.get? p = some o ∧ o.ExactDict := by
        rcases hk with ⟨kvs, hk⟩ | ⟨kvs, hk⟩
        · obtain ⟨_, _, _, _, o, _, _, e, ex, _⟩ := I.hok p _ hk
          exact ⟨o, e, ex⟩
        · obtain ⟨_, _, _, _, o, _, _, e, ex, _⟩ := I.hok p _ hk
          exact ⟨o, e, ex⟩
      obtain ⟨o, e, ex⟩ := z
      refine ⟨⟨o, e, ex.1⟩, fun a e2 => ?_⟩
      cases e2
      exact ⟨o, e, ex.2.1⟩
    · obtain ⟨o, _, _, _, e, ex, _⟩ := I.hok p _ hk
      refine ⟨⟨o, e, ex.1⟩, fun a e2 => ?_⟩
      cases e2
      exact ⟨o, e, ex.2.1⟩
  | _ => exact False.elim ty
def tBM (K : PySem.W.Frag) (T : String) (r : V → List V → Hp → VK → Prop) (to : TE) (t : TA) : TE := fun σ H Q => to σ H fun x H1 => tyV K T x H1 ∧ t σ H1 fun xs H2 => r x xs H2 Q
variable {o e : Expr} {es : List Expr} {to : TE} {t : TA} {name : Str} {apos cpos : Pos} {T id : String} {r : V → List V → Hp → VK → Prop}
theorem ox (pa : PlainAttrs T) (slot : Slot T name id) (hty : typeOf (.builtin id) = pure (.type "method_descriptor")) (hm : MtR X id r) (ho : PE X o to) (ha : PA X (e :: es) t)
    (hbase : attributeBase o name X.env (eval o X.env) = eval o X.env := by rfl)
    (hfew : ((backTo cpos (starEach (e :: es) X.env)).all (fun x => !x.1) && (backToKw cpos (keywordEach [] X.env)).all (fun x => x.1.isSome)
      && decide ((e :: es).length + ([] : List Keyword).length + (if ([] : List Keyword).isEmpty then 0 else 1) < 30)) = true := by rfl)
    (hline : (apos.endLine == cpos.line) = true := by rfl) (hs : starEach (e :: es) X.env = (false, eval e X.env) :: starEach es X.env := by rfl) (hplain : (backTo cpos (starEach es X.env)).any (·.1) = false := by rfl) :
    PE X (.Call (.Attribute o name apos) (e :: es) [] cpos) (tBM X.K T r to t) := by
  intro pins s σ H Q I h
  refine wpAny_Call_method_late hbase hfew hline rfl (thn (ho pins s σ H _ I h) fun v s1 ⟨x, H1, I1, r1, ty, q1⟩ => ?_)
  obtain ⟨h1, h2⟩ := wx I1 r1 ty
  refine ⟨T, id, pa, slot, hty, h1, h2, ?_⟩
  have hA := ha cpos pins s1 σ H1 _ I1 q1
  rw [hs] at hA ⊢
  refine Calls.callWith_builtin (by show (false || (backTo cpos (starEach es X.env)).any (·.1)) = false; rw [hplain] <;> rfl) (Calls.evalArgs_plain ?_)
  exact thn hA fun us s2 ⟨vs, H2, I2, r2, q2⟩ => hm pins s2 σ H2 x vs v us Q I2 r1 r2 q2
end
def MtM (X : Cx) (id : String) (r : V → List V → Hp → VK → Prop) : Prop :=
 ∀ (pins : List (Addr × Obj)) (s : Shared) (σ : St) (H : Hp) (x : V) (xs : List V) (v : Value) (us : List Value) (Q : VK), Inv X pins σ H s → RelV x v → Vals xs us → r x xs H Q →
  wpAny (model X.prog X.w) X.A (call (.builtin id) (v :: us)) (EP X pins σ Q) X.xe s
theorem Vals.one : ∀ {x : V} {us : List Value}, Vals [x] us → ∃ u, us = [u] ∧ RelV x u
 | _, _, .cons r .nil => ⟨_, rfl, r⟩
theorem Vals.rep (h : Vals xs us) : ∀ k : Nat, Vals (List.replicate k xs).flatten (List.replicate k us).flatten
 | 0 => .nil
 | k + 1 => by
  rw [List.replicate_succ, List.replicate_succ, List.flatten_cons, List.flatten_cons]
  exact Vals.append h (Vals.rep h k)
theorem foldl_rep (its : List Value) : ∀ (k : Nat) (acc : List Value),
    List.foldl (fun x1 x2 => x1 ++ x2) acc.toArray (List.replicate k its.toArray) = (acc ++ (List.replicate k its).flatten).toArray
  | 0, acc => by simp
  | k + 1, acc => by
    have e : acc.toArray ++ its.toArray = (acc ++ its).toArray := by simp
    have e2 : (acc ++ its) ++ (List.replicate k its).flatten = acc ++ (List.replicate (k + 1) its).flatten := by
      rw [List.replicate_succ, List.flatten_cons, List.append_assoc]
    rw [← e2, ← foldl_rep its k (acc ++ its), ← e, List.replicate_succ, List.foldl_cons]
section
variable {X : Cx} {pins : List (Addr × Obj)} {σ : St} {H : Hp} {s : Shared} {l b : Addr} {xs ys zs : List V}
theorem Inv.lset {its its' : List Value} {n : Nat} {f : Array Value → Array Value} {t' : Nat} (I : Inv X pins σ H s) (hH : H l = some (.lst xs))
    (e : s.heap.get? l = some { cls := .type "list", data := .seq its.toArray n }) (hf : f its.toArray = its'.toArray) (hv : Vals ys its') (hz : ys.length ≤ sizeLine) :
    Inv X pins σ (upd H l (.lst ys)) { s with heap := s.heap.update l (Obj.mapSeq f), toks := t' } := by
  have q := PySem.IsL.update e f
  rw [hf] at q
  refine I.write (x := l) (e := l) (by rw [hH]; exact trivial) (.inl rfl) (fun b' u hb hu => (Heap.get?_update_other s.heap (Obj.mapSeq f) (Ne.symm hb)).trans hu) ⟨_, q⟩ ?_
  exact ⟨hz, its', _, hv, q⟩
theorem Inv.lnew (I : Inv X pins σ H s) (hv : Vals ys its) (hz : ys.length ≤ sizeLine) :
    Inv X pins σ (upd H s.heap.objs.size (.lst ys)) { s with heap := s.heap.push { cls := .type "list", data := .seq its.toArray }, toks := t' } :=
  I.laid (fun _ _ q => Heap.get?_push_of_some _ q) (Nat.le_refl _) ⟨hz, its, 0, hv, Heap.get?_push_size _ rfl⟩
theorem Inv.fresh (I : Inv X pins σ H s) : H s.heap.objs.size = none := I.hok.fresh (Nat.le_refl _)
theorem Inv.lstM (I : Inv X pins σ H s) (hH : H l = some (.lst xs)) : xs.length ≤ sizeLine ∧ ∃ (its : List Value) (n : Nat), Vals xs its ∧ xs.length = its.length ∧ s.heap.get? l = some { cls := .type "list", data := .seq its.toArray n } := by
 obtain ⟨z, its, n, r, e⟩ := I.hok l _ hH
 exact ⟨z, its, n, r, r.length, e⟩
theorem Wx (h : n ≤ sizeLine) : Builtin.List.listTooLong n = false := by
 unfold Builtin.List.listTooLong
 exact decide_eq_false (by omega)
end
section
variable {X : Cx}
def wy : V → List V → Hp → VK → Prop := fun x vs H Q => ∃ l xs y, x = .ref l ∧ vs = [y] ∧ H l = some (.lst xs) ∧ xs.length < sizeLine ∧ Q .non (upd H l (.lst (xs ++ [y])))
theorem Ox : MtM X "list.append" wy := by
 intro pins s σ H x vs v us Q I rx rv h
 obtain ⟨l, xs, y, rfl, rfl, hH, hz, q⟩ := h
 cases rx
 obtain ⟨u, rfl, ru⟩ := rv.one
 obtain ⟨z, its, n, r, hl, e⟩ := I.lstM hH
 refine call_meets F.slot_list_append ⟨_, e, rfl⟩ F.entry_list_append (F.args_list_append_2 _ _) (PySem.list_append l its.toArray n u (by rw [List.size_toArray]; omega)) ⟨e, ?_⟩
 refine ⟨.non, _, I.lset (its' := its ++ [u]) hH e (by simp) (r.append (.cons ru .nil)) ?_, rfl, q⟩
 rw [List.length_append, List.length_singleton]
 omega
def Wy : R2 := fun x y H Q => ∃ l b xs zs, x = .ref l ∧ y = .ref b ∧ H l = some (.lst xs) ∧ H b = some (.lst zs) ∧ xs.length + zs.length ≤ sizeLine ∧ ∀ p, H p = none → Q (.ref p) (upd H p (.lst (xs ++ zs)))
theorem wz : OpR X (binaryOp .Add) Wy := by
 intro pins s σ H x y v u Q I rx ry h
 obtain ⟨l, b, xs, zs, rfl, rfl, hH, hB, hz, q⟩ := h
 cases rx
 cases ry
 obtain ⟨z, its, n, r, hl, e⟩ := I.lstM hH
 obtain ⟨z2, its2, n2, r2, hl2, e2⟩ := I.lstM hB
 refine PySem.P.add_list e e2 ?_ (by rw [List.size_toArray, List.size_toArray]; omega)
 have ea : its.toArray ++ its2.toArray = (its ++ its2).toArray := by simp
 rw [ea]
 exact ⟨.ref _, _, I.lnew (t' := s.toks) (r.append r2) (by rw [List.length_append]; omega), rfl, q _ I.fresh⟩
def Wz : R2 := fun x y H Q => ∃ l k xs, x = .ref l ∧ y = .int k ∧ H l = some (.lst xs) ∧ -(2 ^ 63) ≤ k ∧ k < 2 ^ 63 ∧ xs.length * k.toNat ≤ sizeLine ∧
 ∀ p, H p = none → Q (.ref p) (upd H p (.lst (List.replicate k.toNat xs).flatten))
theorem len_rep {α : Type} (xs : List α) (k : Nat) : (List.replicate k xs).flatten.length = k * xs.length := by
 induction k with
 | zero => simp
 | succ k ih => rw [List.replicate_succ, List.flatten_cons, List.length_append, ih, Nat.succ_mul, Nat.add_comm]
theorem xa : OpR X (binaryOp .Mult) Wz := by
 intro pins s σ H x y v u Q I rx ry h
 obtain ⟨l, k, xs, rfl, rfl, hH, h1, h2, hz, q⟩ := h
 cases rx
 obtain ⟨t, rfl⟩ := ry
 obtain ⟨z, its, n, r, hl, e⟩ := I.lstM hH
 have hlen : its.toArray.size * k.toNat ≤ sizeLine := by rw [List.size_toArray, ← hl]; exact hz
 have hcap : ¬ its.toArray.size * k.toNat > (2 ^ 63 - 1) / 8 := by
  have : (sizeLine : Nat) ≤ (2 ^ 63 - 1) / 8 := by decide
  omega
 have hfit : ¬ (!Builtin.List.listFitsIndex k) = true := by
  rw [fitsIndex_both h1 h2]
  exact Bool.false_ne_true
 have hlong : ¬ Builtin.List.listTooLong (its.toArray.size * k.toNat) = true := by
  rw [Wx hlen]
  exact Bool.false_ne_true
 have hnew : List.foldl (fun x1 x2 => x1 ++ x2) #[] (List.replicate (if its.toArray.isEmpty = true then 0 else k.toNat) its.toArray) = (List.replicate k.toNat its).flatten.toArray := by
  have f0 : ∀ m : Nat, List.foldl (fun x1 x2 => x1 ++ x2) #[] (List.replicate m its.toArray) = (List.replicate m its).flatten.toArray := fun m => by
   have := foldl_rep its m []
   rw [List.nil_append] at this
   exact this
  rw [f0]
  cases its with
  | nil => simp
  | cons a r' => rw [if_neg (by simp)]
 refine wpAny_binaryOp_repeat_ref (T := "list") (U := "int") (by decide) ⟨_, e, rfl⟩ (fun s' => typeIs_int s' k t) noFill_list_mul F.fills_int_mul F.slot_int_rmul repeat_list F.slot_int_index.lookup
  (call_meets F.slot_int_rmul (typeIs_int s k t) F.entry_int_rmul (F.args_int_rmul_2 _ _) (int___rmul___int_list k t l its.toArray n)
   ⟨e, rfl, ⟨_, e, rfl⟩, call_meets F.slot_list_mul ⟨_, e, rfl⟩ F.entry_list_mul (F.args_list_mul_2 _ _) (AutoListH.list___mul___list_int_3 l its.toArray n k t hfit hcap hlong) ⟨e, ?_⟩⟩)
 rw [hnew]
 exact ⟨.ref _, _, I.lnew (t' := s.toks) (r.rep k.toNat) (by rw [len_rep, Nat.mul_comm]; exact hz), rfl, q _ I.fresh⟩
end
section
variable {prog : Program} {w : World} {A : Around} {E : Value → Shared → Prop} {s : Shared}
end
section
variable {X : Cx}
end
section
variable {κ : Type} [DecidableEq κ]
def Cp (kvs : List (κ × V)) (k : κ) : Option V := (kvs.find? fun kv => decide (kv.1 = k)).map (·.2)
def putK (kvs : List (κ × V)) (k : κ) (v : V) : List (κ × V) :=
 if (kvs.any fun kv => decide (kv.1 = k)) = true then kvs.map (fun kv => if kv.1 = k then (kv.1, v) else kv) else kvs ++ [(k, v)]
def oy (kvs : List (κ × V)) (k : κ) : List (κ × V) := kvs.filter fun kv => decide (kv.1 ≠ k)
theorem Oy {p : κ × V} {r : List (κ × V)} {k : κ} (e : p.1 = k) : Cp (p :: r) k = some p.2 := by simp [Cp, List.find?_cons, e]
theorem oz {p : κ × V} {r : List (κ × V)} {k : κ} (e : ¬ p.1 = k) : Cp (p :: r) k = Cp r k := by simp [Cp, List.find?_cons, e]
theorem Oz (kvs : List (κ × V)) (k : κ) (v : V) : (putK kvs k v).length ≤ kvs.length + 1 := by
 unfold putK
 split
 · rw [List.length_map]; omega
 · rw [List.length_append, List.length_cons, List.length_nil]; omega
theorem De.getD (r : De o u) (rd : RelV d d') : RelV (o.getD d) (u.getD d') := by
 cases o with
 | none => cases u with
  | none => exact rd
  | some _ => exact (show False from r).elim
 | some _ => cases u with
  | none => exact (show False from r).elim
  | some _ => exact r
theorem KV.val {kvs : List (κ × V)} {vs : List (κ × Value)} (r : KV kvs vs) (k : κ) : De (Cp kvs k) (valueAt vs k) := by
 unfold KV at r
 induction r with
 | nil => exact True.intro
 | @cons p q ps qs h t ih =>
  obtain ⟨h1, h2⟩ := h
  by_cases e : p.1 = k
  · have e' : q.1 = k := h1.symm.trans e
    have b : valueAt (q :: qs) k = some q.2 := by simp [valueAt, List.find?_cons, e']
    rw [Oy e, b]; exact h2
  · have e' : ¬ q.1 = k := fun z => e (h1.trans z)
    have b : valueAt (q :: qs) k = valueAt qs k := by simp [valueAt, List.find?_cons, e']
    rw [oz e, b]; exact ih
theorem KV.any (r : KV kvs vs) (k : κ) : (kvs.any fun kv => decide (kv.1 = k)) = vs.any fun kv => decide (kv.1 = k) := by
 unfold KV at r
 induction r with
 | nil => rfl
 | cons h t ih => rw [List.any_cons, List.any_cons, ih, h.1]
theorem KV.repl (r : KV kvs vs) (k : κ) (ry : RelV y u) :
    KV (kvs.map fun kv => if kv.1 = k then (kv.1, y) else kv) (vs.map fun kv => if kv.1 = k then (kv.1, u) else kv) := by
  unfold KV at r ⊢
  induction r with
  | nil => exact .nil
  | @cons p q ps qs h t ih =>
    rw [List.map_cons, List.map_cons]
    refine .cons ?_ ih
    obtain ⟨h1, h2⟩ := h
    by_cases e : p.1 = k
    · rw [if_pos e, if_pos (h1.symm.trans e)]; exact ⟨h1, ry⟩
    · rw [if_neg e, if_neg (fun z => e (h1.trans z))]; exact ⟨h1, h2⟩
theorem KV.put (r : KV kvs vs) (k : κ) (ry : RelV y u) : KV (putK kvs k y) (stored vs k u) := by
 unfold putK stored
 rw [r.any k]
 by_cases e : (vs.any fun kv => decide (kv.1 = k)) = true
 · rw [if_pos e, if_pos e]; exact r.repl k ry
 · rw [if_neg e, if_neg e]; exact Paired.snoc r ⟨rfl, ry⟩
theorem KV.drop (r : KV kvs vs) (k : κ) : KV (oy kvs k) (without vs k) := by
 unfold KV at r ⊢
 unfold oy without
 induction r with
 | nil => exact .nil
 | @cons p q ps qs h t ih =>
  obtain ⟨h1, h2⟩ := h
  rw [List.filter_cons, List.filter_cons]
  by_cases e : p.1 = k
  · have a : ¬ decide (p.1 ≠ k) = true := by simp [e]
    have b : ¬ decide (q.1 ≠ k) = true := by simp [h1.symm.trans e]
    rw [if_neg a, if_neg b]; exact ih
  · have e' : ¬ q.1 = k := fun z => e (h1.trans z)
    have a : decide (p.1 ≠ k) = true := by simp [e]
    have b : decide (q.1 ≠ k) = true := by simp [e']
    rw [if_pos a, if_pos b]; exact .cons ⟨h1, h2⟩ ih
theorem KV.length {kvs : List (κ × V)} {vs : List (κ × Value)} (r : KV kvs vs) : kvs.length = vs.length := Paired.length r
end
theorem Ju (r : RelV (kV k) u) : (cp P w).is k u = true := by
 cases k with
 | inl i => obtain ⟨t, e⟩ := (show ∃ t, u = Value.int i t from r); subst e; exact Uc P w i t
 | inr x => obtain ⟨t, e⟩ := (show ∃ t, u = Value.str x t from r); subst e; exact ud P w x t
theorem Pa : ∀ {ks : List Key} {us : List Value}, Vals (ks.map kV) us → ItemsAre (cp P w) ks us
 | [], _, r => by rw [List.map_nil] at r; cases r; exact .nil
 | k :: ks, _, r => by
  rw [List.map_cons] at r
  cases r with
  | cons h t => exact .cons (Ju h) (Pa t)
abbrev KT (H : Hp) : List (List Key × V) → List (List Key × Addr × Value) → Prop := Paired fun p q => p.1 = q.1 ∧ H q.2.1 = some (.tup (p.1.map kV)) ∧ RelV p.2 q.2.2
theorem KT.val {H : Hp} {kvs : List (List Key × V)} {xs : List (List Key × Addr × Value)} (r : KT H kvs xs) (k : List Key) : De (Cp kvs k) ((atKey xs k).map (·.2)) := by
 induction r with
 | nil => exact True.intro
 | @cons p q ps qs h t ih =>
  obtain ⟨h1, _, h2⟩ := h
  by_cases e : p.1 = k
  · have e' : q.1 = k := h1.symm.trans e
    have b : atKey (q :: qs) k = some q.2 := by simp [atKey, List.find?_cons, e']
    rw [Oy e, b]; exact h2
  · have e' : ¬ q.1 = k := fun z => e (h1.trans z)
    have b : atKey (q :: qs) k = atKey qs k := by simp [atKey, List.find?_cons, e']
    rw [oz e, b]; exact ih
section
variable {P : Program} {w : World} {H : Hp} {h : Heap} {a : Addr}
theorem pb (ok : HOk P w H h) (e : Rd H a u) : Bk P w H h a u := e.ok ok
theorem lu (ok : HOk P w H h) (e : Rd H a (.dK kvs)) : kvs.length ≤ sizeLine ∧ (a == sysModules) = false ∧ ∃ vs, KV kvs vs ∧ h.DictOf (cp P w) a vs :=
 show Bk P w H h a (.dK kvs) from pb ok e
theorem Lu (ok : HOk P w H h) (e : H a = some (.dK kvs)) : kvs.length ≤ sizeLine ∧ (a == sysModules) = false ∧ ∃ vs, KV kvs vs ∧ h.DictOf (cp P w) a vs := lu ok (.inl e)
theorem Pb (ok : HOk P w H h) (e : H a = some (.tup (ks.map kV))) : (tupleKind (cp P w)).is h ks a := by
 obtain ⟨_, its, r, o, h1, h2, n, h3⟩ := (show Bk P w H h a (.tup (ks.map kV)) from ok a _ e)
 exact ⟨o, its.toArray, n, h1, h2, h3, by simpa using Pa r⟩
theorem Pc (ok : HOk P w H h) (e : Rd H a (.dT kvs)) : kvs.length ≤ sizeLine ∧ (a == sysModules) = false ∧
    ∃ xs, KT H kvs xs ∧ h.DictOfH (tupleKind (cp P w)) a xs := by
  obtain ⟨z, y, xs, r, o, es, ep, h1, h2, h3, h4, h5⟩ := (show Bk P w H h a (.dT kvs) from pb ok e)
  refine ⟨z, y, xs, r, o, es, ep, h1, h2, h3, h4, fun x hx => ?_, h5⟩
  have all : ∀ {l : List (List Key × V)} {m : List (List Key × Addr × Value)}, KT H l m → ∀ x ∈ m, (tupleKind (cp P w)).is h x.1 x.2.1 := by
    intro l m q
    induction q with
    | nil => intro x hx; exact nomatch hx
    | @cons p q ps qs hq t ih =>
      intro x hx
      rcases List.mem_cons.mp hx with e | hx
      · subst e
        exact Pb ok (by rw [← hq.1]; exact hq.2.1)
      · exact ih x hx
  exact all r x hx
end
def Gm (H : Hp) (a : Addr) (y : V) (r : Option V) : Prop :=
 (∃ kvs k, Rd H a (.dK kvs) ∧ y = kV k ∧ r = Cp kvs k) ∨ ∃ kvs k b, Rd H a (.dT kvs) ∧ y = .ref b ∧ H b = some (.tup (k.map kV)) ∧ r = Cp kvs k
def jv (H : Hp) (a : Addr) (y v : V) (H' : Hp) : Prop :=
 (∃ kvs k, H a = some (.dK kvs) ∧ y = kV k ∧ kvs.length < sizeLine ∧ H' = upd H a (.dK (putK kvs k v))) ∨
 ∃ kvs k b, H a = some (.dT kvs) ∧ y = .ref b ∧ H b = some (.tup (k.map kV)) ∧ kvs.length < sizeLine ∧ H' = upd H a (.dT (putK kvs k v))
theorem Gm.k {H : Hp} {a : Addr} {kvs : List (Key × V)} {k : Key} (e : H a = some (.dK kvs)) : Gm H a (kV k) (Cp kvs k) := .inl ⟨kvs, k, .inl e, rfl, rfl⟩
theorem Gm.t {H : Hp} {a b : Addr} {kvs : List (List Key × V)} {k : List Key} (e : H a = some (.dT kvs)) (eb : H b = some (.tup (k.map kV))) : Gm H a (.ref b) (Cp kvs k) := .inr ⟨kvs, k, b, .inl e, rfl, eb, rfl⟩
theorem jv.k {H : Hp} {a : Addr} {kvs : List (Key × V)} {k : Key} {v : V} (e : H a = some (.dK kvs)) (hl : kvs.length < sizeLine) : jv H a (kV k) v (upd H a (.dK (putK kvs k v))) := .inl ⟨kvs, k, e, rfl, hl, rfl⟩
theorem jv.t {H : Hp} {a b : Addr} {kvs : List (List Key × V)} {k : List Key} {v : V} (e : H a = some (.dT kvs)) (eb : H b = some (.tup (k.map kV))) (hl : kvs.length < sizeLine) :
    jv H a (.ref b) v (upd H a (.dT (putK kvs k v))) := .inr ⟨kvs, k, b, e, rfl, eb, hl, rfl⟩
section
variable {X : Cx} {pins : List (Addr × Obj)} {σ : St} {H : Hp} {s : Shared} {a : Addr} {y v : V} {u r : Value} {o : Option V} {A : Around} {E : Value → Shared → Prop}
theorem Inv.big (I : Inv X pins σ H s) : sysModules < s.heap.objs.size := by
 have h : mainGlobals < s.heap.objs.size := (I.mod.glob.keeps I.bk).lt
 exact Nat.lt_trans (by decide) h
theorem pd (I : Inv X pins σ H s) (mu : Mut (H a)) (hs : Heap.SameBut a s.heap h') (he : ∃ q, h'.get? a = some q) (new : Bk X.prog X.w (upd H a ob) h' a ob) :
    Inv X pins σ (upd H a ob) { s with heap := h', toks := t' } :=
  I.write (x := a) (e := a) mu (.inl rfl) (fun b q hb z => (hs.2 b hb).trans z) he new
theorem Pd (z : kvs.length ≤ sizeLine) (hd : (a == sysModules) = false) (rel : KV kvs vs) (dd : h'.DictOf (cp P w) a vs) :
    Bk P w H' h' a (.dK kvs) := ⟨z, hd, vs, rel, dd⟩
end
section
variable {X : Cx} {pins : List (Addr × Obj)} {σ : St} {H : Hp} {s : Shared} {a : Addr} {kvs : List (Key × V)} {k : Key} {u : Value} {A : Around} {E : Value → Shared → Prop}
end
section
variable {X : Cx} {o i e value : Expr} {pos pos' tpos : Pos} {td ty tv : TE}
end
theorem Xa (h : Heap) (hb : sysModules < h.objs.size) : Bk P w H (h.push { cls := .type "dict", data := .dict #[] }) h.objs.size (.dK []) :=
 ⟨Nat.zero_le _, beq_eq_false_iff_ne.mpr (Ne.symm (Nat.ne_of_lt hb)), [], .nil, Heap.DictOf.new h⟩
section
variable {X : Cx} {pos : Pos}
end
def ia (kvs more : List (Key × V)) : List (Key × V) := more.foldl (fun acc kv => putK acc kv.1 kv.2) kvs
theorem KV.merge : ∀ {more : List (Key × V)} {rs : List (Key × Value)} {kvs : List (Key × V)} {vs : List (Key × Value)}, KV more rs → KV kvs vs → KV (ia kvs more) (merged vs rs) := by
 intro more rs kvs vs r
 unfold KV at r
 induction r generalizing kvs vs with
 | nil => intro q; exact q
 | @cons p q ps qs h t ih =>
  intro r0
  have e : KV (putK kvs p.1 p.2) (stored vs q.1 q.2) := by
   have := r0.put p.1 h.2
   rw [← h.1]; exact this
  exact ih e
theorem pe : ∀ (more kvs : List (Key × V)), (ia kvs more).length ≤ kvs.length + more.length
 | [], kvs => by show kvs.length ≤ kvs.length + 0; omega
 | p :: r, kvs => by
  have h1 := pe r (putK kvs p.1 p.2)
  have h2 := Oz kvs p.1 p.2
  show (ia (putK kvs p.1 p.2) r).length ≤ _
  rw [List.length_cons]; omega
structure M1 (X : Cx) (o : Expr) (m : Str) (apos : Pos) (e : Expr) (cpos : Pos) : Prop where
 base : attributeBase o m X.env (eval o X.env) = eval o X.env
 few : ((backTo cpos (starEach [e] X.env)).all (fun x => !x.1) && (backToKw cpos (keywordEach [] X.env)).all (fun x => x.1.isSome)
  && decide (([e] : List Expr).length + ([] : List Keyword).length + (if ([] : List Keyword).isEmpty then 0 else 1) < 30)) = true
 line : (apos.endLine == cpos.line) = true
 trees : backTo cpos (starEach [e] X.env) = [(false, eval e X.env)]
def IsD (H : Hp) (a : Addr) : Prop := (∃ kvs, Rd H a (.dK kvs)) ∨ ∃ kvs, Rd H a (.dT kvs)
theorem xb {σ : St} (I : Inv X pins σ H s) (d : IsD H a) :
    s.TypeIs (.ref a) "dict" ∧ (∀ b, Value.ref a = .ref b → ∃ ob, s.heap.get? b = some ob ∧ ob.dict = none) ∧ (a == sysModules) = false := by
  rcases d with ⟨kvs, e⟩ | ⟨kvs, e⟩
  · obtain ⟨_, hd, vs, _, dd⟩ := lu I.hok e
    refine ⟨dd.typeIs, fun b q => ?_, hd⟩
    cases q
    obtain ⟨ob, _, _, h1, h2, _⟩ := dd
    exact ⟨ob, h1, h2.2.1⟩
  · obtain ⟨_, hd, xs, _, dd⟩ := Pc I.hok e
    refine ⟨dd.typeIs, fun b q => ?_, hd⟩
    cases q
    obtain ⟨ob, _, _, h1, h2, _⟩ := dd
    exact ⟨ob, h1, h2.2.1⟩
section
variable {X : Cx} {pins : List (Addr × Obj)} {σ : St} {H : Hp} {s : Shared} {a : Addr} {y d : V} {u r : Value} {o : Option V} {A : Around} {E : Value → Shared → Prop}
theorem Xb (hu : A.units + 1 < cLine) (I : Inv X pins σ H s) (g : Gm H a y o) (ry : RelV y u) (h : ∀ w' s', Inv X pins σ H s' → RelV (o.getD .non) w' → Q w' s') :
    wpAny (model X.prog X.w) A (call (.builtin "dict.get") [.ref a, u]) Q E s := by
  rcases g with ⟨kvs, k, e, ey, l⟩ | ⟨kvs, k, b, e, ey, eb, l⟩
  · subst ey
    obtain ⟨z, hd, vs, rel, dd⟩ := lu I.hok e
    refine call_meetsIn PySem.F.slot_dict_get dd.typeIs PySem.F.entry_dict_get (PySem.F.args_dict_get_2 _ _) (meets_dict_get (cp X.prog X.w) a (Ju ry) hd) ⟨_, dd.mapOf, h _ _ (I.tok _) ?_⟩
    rw [l]
    exact (rel.val k).getD rfl
  · subst ey
    cases (show u = Value.ref b from ry)
    obtain ⟨z, hd, xs, rel, dd⟩ := Pc I.hok e
    refine call_meetsIn PySem.F.slot_dict_get dd.typeIs PySem.F.entry_dict_get (PySem.F.args_dict_get_2 _ _) (meetsH_dict_get (tupleKind (cp X.prog X.w)) a b hd) ⟨tupleKind_room_in1 hu, k, xs, Pb I.hok eb, dd, h _ _ (I.tok _) ?_⟩
    rw [l]
    exact (rel.val k).getD rfl
end
def xc (td ty : TE) : TE := fun σ H Q => td σ H fun x H1 => ∃ a, x = .ref a ∧ IsD H1 a ∧ ty σ H1 fun y H2 => ∃ o, Gm H2 a y o ∧ Q (o.getD .non) H2
section
variable {X : Cx} {o e f : Expr} {apos cpos : Pos} {td ty tx : TE}
theorem Xc (hu : X.A.units + 1 < cLine) (ho : PE X o td) (he : PE X e ty) (m : M1 X o "get" apos e cpos) : PE X (.Call (.Attribute o "get" apos) [e] [] cpos) (xc td ty) := by
 intro pins s σ H Q I h
 refine wpAny_Call_method m.base m.few m.line PySem.F.plainAttrs_dict PySem.F.slot_dict_get PySem.F.type_dict_get (thn (ho pins s σ H _ I h) fun u s1 ⟨x, H1, I1, rx, a, ex, d, q1⟩ => ?_)
 subst ex
 obtain rfl : u = Value.ref a := rx
 obtain ⟨t1, t2, _⟩ := xb I1 d
 refine ⟨t1, t2, ?_⟩
 rw [m.trees]
 refine Calls.callWith_builtin rfl (Calls.evalArgs_plain (Calls.spliced_cons (thn (he pins s1 σ H1 _ I1 q1) fun iv s2 ⟨y, H2, I2, ry, ov, g, q2⟩ => Calls.spliced_nil ?_)))
 exact Xb hu I2 g ry fun w' s3 I3 rw' => ⟨_, H2, I3, rw', q2⟩
end
section
variable {X : Cx} {pins : List (Addr × Obj)} {σ : St} {H : Hp} {s : Shared} {a : Addr} {kvs : List (Key × V)} {A : Around} {E : Value → Shared → Prop}
end
section
variable {X : Cx} {pins : List (Addr × Obj)} {σ : St} {H : Hp} {s : Shared} {a : Addr} {y : V} {u : Value} {A : Around} {E : Value → Shared → Prop}
end
end L2
namespace Att
open PySem PySem.W PySem.Calls PyProof.Rows
theorem Xd : ∀ (ns : List Int) (vs : List Value), WellAll P h vs (ns.map WData.int) → IntsAre vs ns := by
 intro ns
 induction ns with
 | nil =>
  intro vs w
  rw [List.map_nil] at w
  cases w
  exact .nil
 | cons n ns ih =>
  intro vs w
  rw [List.map_cons] at w
  cases w with
  | cons a b =>
   cases a
   exact .cons _ _ (ih _ b)
theorem Xe {l : OpenLaw} {n : Nat} (hn : l.most = some n) {P : Params} {h : Heap} {args : List WData} {vals : List Value}
    (hpre : l.row.toRowW.claim.pre args = true) (hwl : WellAll P h vals args) :
    ∃ a vs ns, vals = [Value.ref a] ∧ args = [WData.list (ns.map WData.int)] ∧ h.get? a = some { cls := .type "list", data := .seq vs.toArray } ∧ IntsAre vs ns ∧ ns.length ≤ n := by
  have hsh : WShape.hasAll [] args [.list .int] = true := (pre_splitW hpre).1
  have hc : l.pre.holds [] { args := args } = true := (pre_splitW hpre).2
  obtain ⟨d, r, rfl, h1, h2⟩ := hasAllW_cons hsh
  obtain rfl := hasAllW_nil h2
  obtain ⟨xs, rfl, h3⟩ := hasW_list h1
  obtain ⟨ns, rfl⟩ := items_int h3
  have hlen : ns.length ≤ n := by
    unfold OpenLaw.pre at hc
    have h4 : (WTm.not (.lt (.lit (.int (n : Int))) (.len (.arg 0)))).holds [] { args := [.list (ns.map .int)] } = true := by
      have h4 := (holds_andW hc).1
      rw [hn] at h4
      exact h4
    have h5 := condW_of h4 (w_not (w_lt w_lit (w_len_list (w_arg rfl))))
    rw [List.length_map] at h5
    refine Nat.le_of_not_lt fun q => ?_
    have q' : (n : Int) < ((ns.length : Nat) : Int) := by omega
    first
      | (rw [decide_eq_true q'] at h5; exact absurd h5 (by decide))
      | (simp at h5; omega)
  cases hwl with
  | cons w1 w2 =>
    cases w2
    cases w1 with
    | list ho hall => exact ⟨_, _, ns, rfl, rfl, ho, Xd ns _ hall, hlen⟩
theorem xf (l : OpenLaw) (args : List WData) : l.row.toRowW.claim.post args (.bool true) args = true :=
 postW_of (r := l.row.toRowW) (X := (true == true))
  (show WShape.has [] (.bool true) .bool = true by first | rfl | decide | simp [WShape.has, WShape.arms, WShape.armsAll])
  (show (WTm.eq .res (.lit (.bool true))).value [] { args := args, res := some (.bool true), after := args } = some (.bool (true == true)) from w_eq_bool (w_res rfl) w_lit) rfl
theorem Xf {l : OpenLaw} {n : Nat} {q : Program} {loose : List Str} {XP : (Str → Option Value) → Heap → Prop} {YP : World → Heap → Prop} {d : DefRec}
    (hn : l.most = some n) (hdf : d.params.defaults = [])
    (call : ∀ (w : World) (s₀ s₁ : Shared) (mg mb : Str → Option Value) (fa : Addr) (o : Obj) (pm cd doc : Value) (a : Addr) (vs : List Value) (ns : List Int),
      Ground q loose [] XP w s₀ mg mb s₁.heap → YP w s₁.heap →
      s₁.heap.get? fa = some o → o.data = .func (docDef d.name d.params d.body d.scope pm cd doc) → s₁.heap.CodeRec cd d.name → mg d.name = some (.ref fa) →
      s₁.heap.get? a = some { cls := .type "list", data := .seq vs.toArray } → IntsAre vs ns → ns.length ≤ n → s₁.gens = #[] →
      codeAny (model l.prog w) callerA (.call (.ref fa) ⟨[.ref a], []⟩) (fun r s' => r = .ok (.ret (.bool true)) ∧ OldK s₁.heap s'.heap ∧ s'.os = s₁.os ∧ AllBare s'.gens) s₁) :
    WalkO q loose XP YP l.row.toRowW d [] (fun f vs => PySem.call f vs) := by
  intro w s₀ s₁ mg mb G Y fa o pm cd doc dV kV ho hd hcd hD hmg hg args vals as hpre hlay hrd hwl hlo
  obtain rfl : dV = .none := Dflts.none hD hdf
  obtain rfl : kV = .none := Dflts.noKw hD
  obtain ⟨a, vs, ns, rfl, rfl, hobj, hints, hlen⟩ := Xe hn hpre hwl
  refine enter_call (codeAny_mono (call w s₀ s₁ mg mb fa o pm cd doc a vs ns G Y ho (fd_plain hd) hcd hmg hobj hints hlen hg) fun r s' hq => ?_)
  obtain ⟨rfl, h2, h3, h4⟩ := hq
  exact ⟨.inl ⟨.bool true, .bool true, [], rfl, fun _ => rfl, .bool true, xf l _, fun _ => ⟨List.Pairwise.nil, fun _ hm => (nomatch hm)⟩⟩, h2, h3, h4⟩
section
variable {prog : Program} {w : World} {A : Around} {E : Value → Shared → Prop} {s : Shared} {K : Frag}
end
end Att
namespace L2
open PySem PySem.Spec PyProof.Rows
theorem Pe : ∀ {vs : List Value} {ns : List Int}, IntsAre vs ns → Vals (ns.map V.int) vs
 | _, _, .nil => .nil
 | _, _, .cons n t h => .cons ⟨t, rfl⟩ (Pe h)
def Jv (H : Hp) : Prop := ∀ b, H b = none ∨ ∃ o xs, H b = some (.frz o (.lst xs))
theorem xg {P : Program} {w : World} {K : PySem.W.Frag} {mg mb : Str → Option Value} {CX : CXT} {k : Nat} {fa a : Addr} {fd : FuncData} {x : Str} {sp : Sp} {s₁ : Shared} {vs : List Value} {ns : List Int}
    (KX : K.In s₁.heap) (hns : s₁.heap.Ns mainGlobals mg) (hb : s₁.heap.Ns builtinsNs mb) (hbb : ∀ x : Str, x ≠ "__name__" → mb x = bootBuiltins x) (hlim : s₁.heap.NoLimit) (hg : s₁.gens = #[])
    (ha : s₁.heap.get? a = some { cls := .type "list", data := .seq vs.toArray }) (hi : IntsAre vs ns) (hl : ns.length ≤ sizeLine) (hr : Room k callerA)
    (F : ∀ base : Heap, K.In base → base.Ns mainGlobals mg → FnOk P w K mg base CX k fa fd [x] sp) (hbind : ∀ (s : Shared) (u : Value), BindsTo s fd ⟨[u], []⟩ [(x, u)])
    (hsp : ∀ H : Hp, Jv H → SqL K H a (ns.map V.int) → sp [.ref a] H (fun v _ => v = .bl true) fun _ _ _ => False)
    (hCX : ∀ H e s', CX [] H s₁ (fun _ _ _ => False) e s' → False) :
    codeAny (model P w) callerA (.call (.ref fa) ⟨[.ref a], []⟩) (fun r s' => r = .ok (.ret (.bool true)) ∧ OldK s₁.heap s'.heap ∧ s'.os = s₁.os ∧ AllBare s'.gens) s₁ := by
  have rv := Pe hi
  have lenV := hi.length
  have core : ∀ H : Hp, Jv H → SqL K H a (ns.map V.int) → HOk P w H s₁.heap → (∀ b, H b ≠ none → b = a) → (H a ≠ none → K.lookup a = none) →
      codeAny (model P w) callerA (.call (.ref fa) ⟨[.ref a], []⟩) (fun r s' => r = .ok (.ret (.bool true)) ∧ OldK s₁.heap s'.heap ∧ s'.os = s₁.os ∧ AllBare s'.gens) s₁ := by
    intro H hO hS hok hA hK
    have base_of : ∀ {b : Addr} {o : Obj}, s₁.heap.get? b = some o → H b = none → (Fc s₁.heap H).get? b = some o := fun e n => ue e n
    have noA : ∀ {b : Addr} {o : Obj} {es : Array DictEntry} {ep : Nat}, s₁.heap.get? b = some o → o.data = .dict es ep → H b = none := fun {b o es ep} e d => by
      cases q : H b with
      | none => rfl
      | some u =>
        have e' : b = a := hA b (by rw [q]; simp)
        subst e'
        rw [ha] at e; cases e
        have d' : Data.seq vs.toArray _ = Data.dict es ep := d
        cases d'
    have nsK : ∀ {b : Addr} {m : Str → Option Value}, s₁.heap.Ns b m → (Fc s₁.heap H).Ns b m := fun {b m} ⟨o, es, ep, e, d, r⟩ => ⟨o, es, ep, base_of e (noA e d), d, r⟩
    have hKb : K.In (Fc s₁.heap H) := fun b o e => base_of (KX b o e) (by
      cases q : H b with
      | none => rfl
      | some u =>
        have e' : b = a := hA b (by rw [q]; simp)
        subst e'
        rw [hK (by rw [q]; simp)] at e; cases e)
    have hM : Mod K mg (Fc s₁.heap H) := ⟨hKb, nsK hns, ⟨mb, nsK hb, hbb⟩, let ⟨mc, h1, h2⟩ := hlim; ⟨mc, nsK h1, h2⟩⟩
    have e0 : Env0 P w K mg (Fc s₁.heap H) callerA [] s₁ H := ⟨rfl, hM, fun b o e => Ue e, Nat.le_of_eq (Ud _ _), trivial, fun b hb => absurd (show b ∈ ([] : List Addr) from hb) (by simp), hok, .of_eq hg⟩
    refine codeAny_mono ((F _ hKb (nsK hns)).run callerA [] s₁ H ⟨[.ref a], []⟩ [.ref a] [.ref a] _ _ hr e0 (hbind s₁ (.ref a)) (.cons rfl .nil) (hsp H hO hS)) fun r s' h => ?_
    cases r with
    | error e => exact (hCX H e s' h).elim
    | ok fl =>
      cases fl with
      | next => exact False.elim h
      | brk => exact False.elim h
      | cont => exact False.elim h
      | ret u =>
        obtain ⟨v, H', os, bare, un, hok', r', q⟩ := h
        have q' : v = .bl true := q
        subst q'
        obtain rfl : u = Value.bool true := r'
        refine ⟨rfl, OldK.of_keep fun b o e => ?_, os, bare⟩
        cases q : H b with
        | none => exact un.keep b o e q (by intro z; exact absurd (show b ∈ ([] : List Addr) from z) (by simp)) (by simp)
        | some u =>
          rcases hO b with z | ⟨ob, xs, z⟩
          · rw [q] at z; cases z
          · have z2 := un.frzs b ob _ z
            obtain ⟨e1, _⟩ := hok b _ z
            obtain ⟨e2, _⟩ := hok' b _ z2
            rw [e] at e1; cases e1
            exact e2
  cases hk : K.lookup a with
  | some o =>
    have e := KX a o hk
    rw [ha] at e
    cases e
    refine core (fun _ => none) (fun _ => .inl rfl) (.inr ⟨_, vs.toArray, _, hk, rfl, rfl, rfl, by rw [List.size_toArray, lenV]; exact hl, by simpa using rv⟩) (fun b u z => by have z' : (none : Option HO) = some u := z; cases z') (fun b z => absurd rfl z) fun z => absurd rfl z
  | none =>
    refine core (fun b => if b = a then some (.frz { cls := .type "list", data := .seq vs.toArray } (.lst (ns.map V.int))) else none) (fun b => ?_) (.inl (.inr ⟨{ cls := .type "list", data := .seq vs.toArray }, if_pos rfl⟩)) (fun b u z => ?_) (fun b z => ?_) fun _ => hk
    · by_cases hb : b = a
      · exact .inr ⟨_, _, if_pos hb⟩
      · exact .inl (if_neg hb)
    · by_cases hb : b = a
      · have z' := (if_pos hb).symm.trans z
        cases z'
        subst hb
        exact ⟨ha, by rw [List.length_map]; exact hl, vs, _, rv, ha⟩
      · have z' := (if_neg hb).symm.trans z
        cases z'
    · by_cases hb : b = a
      · exact hb
      · exact absurd (if_neg hb) z
theorem Xg {l : PySem.W.OpenLaw} {n k : Nat} {q : Program} {loose : List Str} {XP : (Str → Option Value) → Heap → Prop} {YP : World → Heap → Prop} {d : DefRec} {K : Params → PySem.W.Frag} {CX : World → CXT} {sp : World → Sp} {x : Str}
    (hn : l.most = some n) (hn2 : n ≤ sizeLine) (hdf : d.params.defaults = []) (hr : Room k callerA)
    (hY : ∀ (w : World) (h : Heap), YP w h → (K w.params).In h)
    (F : ∀ (w : World) (mg : Str → Option Value) (fa : Addr) (h : Heap), (K w.params).In h → h.Ns mainGlobals mg → mg d.name = some (.ref fa) →
      ∃ fd : FuncData, (∀ (s : Shared) (u : Value), BindsTo s fd ⟨[u], []⟩ [(x, u)]) ∧
        ∀ base : Heap, (K w.params).In base → base.Ns mainGlobals mg → FnOk l.prog w (K w.params) mg base (CX w) k fa fd [x] (sp w))
    (hsp : ∀ (w : World) (H : Hp) (a : Addr) (ns : List Int), ns.length ≤ n → Jv H → SqL (K w.params) H a (ns.map V.int) → sp w [.ref a] H (fun v _ => v = .bl true) fun _ _ _ => False)
    (hCX : ∀ (w : World) (H : Hp) (s : Shared) (e : Value) (s' : Shared), CX w [] H s (fun _ _ _ => False) e s' → False) :
    PySem.W.WalkO q loose XP YP l.row.toRowW d [] (fun f vs => PySem.call f vs) := by
  refine Att.Xf hn hdf fun w s₀ s₁ mg mb fa o pm cd doc a vs ns G Y ho hd hcd hmg hobj hints hlen hg => ?_
  have KX := hY w _ Y
  obtain ⟨fd, hb, hF⟩ := F w mg fa _ KX G.T.g hmg
  exact xg KX G.T.g G.T.b G.T.builtins G.T.nolimit hg hobj hints (Nat.le_trans hlen hn2) hr hF hb (fun H hO hS => hsp w H a ns hlen hO hS) fun H e s' => hCX w H s₁ e s'
def Ia (s : Stmt) : Arguments := match s with
 | .FunctionDef _ a _ _ _ _ _ _ _ _ => a
 | _ => { posonlyargs := [], args := [], vararg := none, kwonlyargs := [], kw_defaults := [], kwarg := none, defaults := [] }
def Fv (s : Stmt) : List Stmt := match s with
 | .FunctionDef _ _ b _ _ _ _ _ _ _ => b
 | _ => []
def au (s : Stmt) : Scope := match s with
 | .FunctionDef _ _ _ _ _ _ sc _ _ _ => sc
 | _ => { kind := .function, names := [], isGenerator := false, isCoroutine := false }
abbrev CX0 : CXT := fun _ _ _ _ _ _ => False
abbrev E0 : XK := fun _ _ _ => False
structure Fun (K : PySem.W.Frag) (x qual : Str) (st : Stmt) (f : Addr) (fd : FuncData) : Prop where
 ex : ∃ (oc : Value) (od : Option Addr) (kV doc pm : Value) (an : Option Addr) (cdv ct : Value) (osl : Array (Option Value)),
  fd = PySem.W.fnOf x qual (Ia st) (Fv st) (au st) .none kV doc pm an cdv ct ∧ K.lookup f = some ⟨oc, od, .func fd, osl⟩ ∧ PySem.W.codeIn K cdv qual = true
 kp : PySem.W.keepIn K (.ref f) = true
section
variable {P : Program} {w : World} {K : PySem.W.Frag} {mg : Str → Option Value} {base : Heap}
theorem Fun.ok {x qual : Str} {st : Stmt} {f : Addr} {fd : FuncData} {N ps : List Str} {k : Nat} {sp : Sp} (F : Fun K x qual st f fd) (S : FnScope N ps (au st)) (len : ∀ vs H Q E, sp vs H Q E → vs.length = ps.length)
    (hbody : ∀ (cdv : Value) (A : Around) (outer : List Env) (s : Shared) (H : Hp) (vs : List V) (Q : VK) (E : XK), Room k (A.deeper (envOfC qual (au st) s.heap.objs.size f cdv)) → sp vs H Q E →
      ∃ t, PSs (dw CX0 P w K mg base N qual (au st) f cdv A outer s H E).nox (Fv st) t ∧ t { nx := fun _ H' => Q .non H', rt := Q } (start N vs) H) : FnOk P w K mg base CX0 (k + 1) f fd ps sp := by
  obtain ⟨oc, od, kV, doc, pm, an, cdv, ct, osl, rfl, lk, hcd⟩ := F.ex
  refine Om lk hcd S len fun A outer s H vs Q E hr hsp => ?_
  obtain ⟨t, h, q⟩ := hbody cdv A outer s H vs Q E hr hsp
  exact ⟨t, h.nox, q⟩
end
section
variable {X : Cx}
theorem pv (i : Nat) {pos : Pos} (hN : X.N[i]? = some x := by rfl) (hv : Vis X.env.scope x := by first | exact Or.inl rfl | exact Or.inr (Or.inl rfl) | exact Or.inr (Or.inr rfl)) (hd : (x == ("__debug__" : Str)) = false := by decide)
    (hcd : (x == ("__classdict__" : Str)) = false := by decide) : PE X (.Name x pos) (Lj i) := Ug hN hv hd hcd
end
theorem gp {A B : Prop} (h : B) : if false = true then A else B := by
 rw [if_neg Bool.false_ne_true]
 exact h
theorem Gp {A B : Prop} (h : A) : if true = true then A else B := by
 rw [if_pos rfl]
 exact h
def bg (H H' : Hp) : Prop := ∀ b o, H b = some o → H' b = some o
theorem bg.trans (a : bg H H1) (b : bg H1 H2) : bg H H2 := fun c o h => b c o (a c o h)
theorem bg.free {H H' : Hp} (e : bg H H') {l : Addr} (h : H' l = Option.none) : H l = Option.none := by
 cases q : H l with
 | none => rfl
 | some o =>
  rw [e l o q] at h
  cases h
theorem bg.seq {K : PySem.W.Frag} {H H' : Hp} {a : Addr} {xs : List V} (e : bg H H') (h : SqL K H a xs) : SqL K H' a xs := by
 rcases h with (h | ⟨o, h⟩) | h
 · exact .inl (.inl (e _ _ h))
 · exact .inl (.inr ⟨o, e _ _ h⟩)
 · exact .inr h
section
variable {κ : Type} [DecidableEq κ]
end
end L2
namespace DD
open PySem PySem.Builtin L2
open PyProof.Rows (IsTup.new)
theorem xh (l : Addr) (items : Array Value) (n : Nat) (dd : Option Addr) (sl : Array (Option Value)) (x : Int) (u : Tok) (h1 : (decide (x < -2 ^ 63) || decide (x ≥ 2 ^ 63)) = false) (h2 : (items.isEmpty || x == 1) = true) :
    Meets (Builtin.«tuple.__mul__» ⟨[.ref l, .int x u], []⟩) (fun _ R s => s.heap.get? l = some { cls := .type "tuple", dict := dd, data := .seq items n, slots := sl } ∧ R (.ok (.ret (Value.ref l))) s) :=
  .of_wp fun pr wd Ar Rs s0 hh => by
    obtain ⟨hp0, gn, dr, tk0, os0⟩ := s0
    obtain ⟨hl, hh⟩ := hh
    wp_walk
    refine wpAny_ite_false (by rw [h1]; rfl) ?_
    wp_walk
    exact ⟨_, rfl, hh⟩
theorem Xh (l : Addr) (items : Array Value) (n : Nat) (dd : Option Addr) (sl : Array (Option Value)) (x : Int) (u : Tok) (h1 : (decide (x < -2 ^ 63) || decide (x ≥ 2 ^ 63)) = false) (h2 : (items.isEmpty || x == 1) = false) (h3 : (decide (x ≤ 0) || items.isEmpty) = true) :
    Meets (Builtin.«tuple.__mul__» ⟨[.ref l, .int x u], []⟩) (fun _ R s => s.heap.get? l = some { cls := .type "tuple", dict := dd, data := .seq items n, slots := sl } ∧ R (.ok (.ret (Value.ref s.heap.objs.size))) { s with heap := s.heap.push { cls := .type "tuple", data := .seq #[] } }) :=
  .of_wp fun pr wd Ar Rs s0 hh => by
    obtain ⟨hp0, gn, dr, tk0, os0⟩ := s0
    obtain ⟨hl, hh⟩ := hh
    wp_walk
    refine wpAny_ite_false (by rw [h1]; rfl) ?_
    wp_walk
    exact ⟨_, rfl, hh⟩
theorem xi (l : Addr) (items : Array Value) (n : Nat) (dd : Option Addr) (sl : Array (Option Value)) (x : Int) (u : Tok) (h1 : (decide (x < -2 ^ 63) || decide (x ≥ 2 ^ 63)) = false) (h2 : (items.isEmpty || x == 1) = false) (h3 : (decide (x ≤ 0) || items.isEmpty) = false) (h4 : ¬ ((items.size : Int) * x > (2 ^ 63 - 1) / 8)) (h5 : Tuple.tupleTooMany ((items.size : Int) * x) = false) (h6 : (List.foldl (fun x1 x2 => x1 ++ x2) #[] (List.replicate x.toNat items)).size ≤ sizeLine) :
    Meets (Builtin.«tuple.__mul__» ⟨[.ref l, .int x u], []⟩) (fun _ R s => s.heap.get? l = some { cls := .type "tuple", dict := dd, data := .seq items n, slots := sl } ∧ R (.ok (.ret (Value.ref s.heap.objs.size))) { s with heap := s.heap.push { cls := .type "tuple", data := .seq (List.foldl (fun x1 x2 => x1 ++ x2) #[] (List.replicate x.toNat items)) } }) :=
  .of_wp fun pr wd Ar Rs s0 hh => by
    obtain ⟨hp0, gn, dr, tk0, os0⟩ := s0
    obtain ⟨hl, hh⟩ := hh
    wp_walk
    refine wpAny_ite_false (by rw [h1]; rfl) ?_
    wp_walk
    refine wpAny_ite_false (decide_eq_false h4) ?_
    wp_walk
    exact ⟨_, rfl, hh⟩
theorem Xi (a : Int) (t : Tok) (l : Addr) (items : Array Value) (n : Nat) (dd : Option Addr) (sl : Array (Option Value)) :
    Meets (Builtin.«int.__rmul__» ⟨[.int a t, .ref l], []⟩) (fun _ R s => s.heap.get? l = some { cls := .type "tuple", dict := dd, data := .seq items n, slots := sl } ∧ R (.ok (.ret Value.notImplemented)) s) :=
  .of_wp fun pr wd Ar Rs s0 hh => by
    obtain ⟨hp0, gn, dr, tk0, os0⟩ := s0
    obtain ⟨hl, hh⟩ := hh
    wp_walk
    exact ⟨_, rfl, hh⟩
theorem xj : fillsNumberSlot (.type "tuple") "mul" = pure false :=
 fillsNumberSlot_seq (id := "tuple.__mul__") (r := some (.builtin "tuple.__rmul__")) PySem.F.slot_tuple_mul.lookup (by decide +kernel) PySem.F.slot_tuple_rmul.lookup (by decide +kernel)
theorem Xj : seqRepeat? (.type "tuple") = pure (some (.builtin "tuple.__mul__")) := by
 unfold seqRepeat?
 rw [seqSlot_of (T := "tuple") (name := "__mul__") (id := "tuple.__mul__") PySem.F.slot_tuple_mul.lookup (by decide +kernel), seqSlot_of (T := "tuple") (name := "__rmul__") (id := "tuple.__rmul__") PySem.F.slot_tuple_rmul.lookup (by decide +kernel)]
 rfl
theorem Lw {α : Type} (k : Nat) (xs : List α) : (List.replicate k xs).flatten.length = k * xs.length := by simp
def Xk (K : PySem.W.Frag) : R2 := fun x y H Q => ∃ a k xs, x = .ref a ∧ y = .int k ∧ SqT K H a xs ∧ -(2 ^ 63) ≤ k ∧ k < 2 ^ 63 ∧ xs.length * k.toNat ≤ sizeLine ∧
 (((List.replicate k.toNat xs).flatten = xs → Q (.ref a) H) ∧ ∀ p, H p = none → Q (.ref p) (upd H p (.tup (List.replicate k.toNat xs).flatten)))
theorem xl : OpR X (binaryOp .Mult) (Xk X.K) := by
 intro pins s σ H x y v u Q I rx ry h
 obtain ⟨a, k, xs, rfl, rfl, ha, h1, h2, hz, q1, q2⟩ := h
 cases rx
 obtain ⟨t, rfl⟩ := ry
 obtain ⟨its, r, p, hsz⟩ := I.tuple ha
 obtain ⟨⟨cls, dd, data, sl⟩, ho, hc, n, hd⟩ := id p
 simp only at hc hd
 subst hc hd
 have e1 : (decide (k < -2 ^ 63) || decide (k ≥ 2 ^ 63)) = false := by
  rw [decide_eq_false (by omega), decide_eq_false (by omega)]; rfl
 have hl := r.length
 refine wpAny_binaryOp_repeat_ref (T := "tuple") (U := "int") (by decide) ⟨_, ho, rfl⟩ (fun s' => typeIs_int s' k t) xj PySem.F.fills_int_mul PySem.F.slot_int_rmul Xj PySem.F.slot_int_index.lookup
  (call_meets PySem.F.slot_int_rmul (typeIs_int s k t) PySem.F.entry_int_rmul (PySem.F.args_int_rmul_2 _ _) (Xi k t a its.toArray n dd sl)
   ⟨ho, rfl, ⟨_, ho, rfl⟩, ?_⟩)
 cases e2 : (its.toArray.isEmpty || k == 1) with
 | true =>
  refine call_meets PySem.F.slot_tuple_mul ⟨_, ho, rfl⟩ PySem.F.entry_tuple_mul (PySem.F.args_tuple_mul_2 _ _) (xh a its.toArray n dd sl k t e1 e2) ⟨ho, ?_⟩
  refine ⟨.ref a, H, I, rfl, q1 ?_⟩
  simp only [Bool.or_eq_true, beq_iff_eq] at e2
  rcases e2 with e2 | rfl
  · have : its = [] := by simpa using e2
    subst this
    have : xs = [] := by simpa using hl
    subst this
    simp
  · simp
 | false =>
  cases e3 : (decide (k ≤ 0) || its.toArray.isEmpty) with
  | true =>
   refine call_meets PySem.F.slot_tuple_mul ⟨_, ho, rfl⟩ PySem.F.entry_tuple_mul (PySem.F.args_tuple_mul_2 _ _) (Xh a its.toArray n dd sl k t e1 e2 e3) ⟨ho, ?_⟩
   have hk : k.toNat = 0 := by
    simp only [Bool.or_eq_true, decide_eq_true_eq] at e3
    rcases e3 with e3 | e3
    · omega
    · simp [e3] at e2
   rw [hk] at q2
   refine ⟨.ref s.heap.objs.size, _, I.laid (t' := s.toks) (o := .tup []) (fun b ob q => Heap.get?_push_of_some _ q) (Nat.le_refl _) ?_, rfl, q2 _ (I.hok.fresh (Nat.le_refl _))⟩
   exact ⟨by simp, [], .nil, IsTup.new _ _⟩
  | false =>
   simp only [Bool.or_eq_false_iff, decide_eq_false_iff_not] at e3
   have hk : (k.toNat : Int) = k := Int.toNat_of_nonneg (by omega)
   have hz2 : its.length * k.toNat ≤ sizeLine := by rw [← hl]; exact hz
   have hz3 : (its.toArray.size : Int) * k ≤ 16777216 := by
    have : ((its.length * k.toNat : Nat) : Int) ≤ ((sizeLine : Nat) : Int) := Int.ofNat_le.mpr hz2
    rw [Int.natCast_mul, hk] at this
    rw [List.size_toArray]
    exact Int.le_trans this (by decide)
   have hnew : List.foldl (fun x1 x2 => x1 ++ x2) #[] (List.replicate k.toNat its.toArray) = (List.replicate k.toNat its).flatten.toArray := by
    have := foldl_rep its k.toNat []
    rw [List.nil_append] at this
    exact this
   refine call_meets PySem.F.slot_tuple_mul ⟨_, ho, rfl⟩ PySem.F.entry_tuple_mul (PySem.F.args_tuple_mul_2 _ _) (xi a its.toArray n dd sl k t e1 e2 (by simp [e3]) (by omega) ?_ ?_) ⟨ho, ?_⟩
   · unfold Tuple.tupleTooMany
     refine decide_eq_false ?_
     have : ((its.length * k.toNat : Nat) : Int) ≤ ((sizeLine : Nat) : Int) := Int.ofNat_le.mpr hz2
     rw [Int.natCast_mul, hk] at this
     rw [List.size_toArray]
     omega
   · rw [hnew, List.size_toArray, Lw, Nat.mul_comm]; exact hz2
   · rw [hnew]
     refine ⟨.ref s.heap.objs.size, _, I.laid (t' := s.toks) (o := .tup (List.replicate k.toNat xs).flatten) (fun b ob q => Heap.get?_push_of_some _ q) (Nat.le_refl _) ?_, rfl, q2 _ (I.hok.fresh (Nat.le_refl _))⟩
     exact ⟨by rw [Lw, Nat.mul_comm]; exact hz, _, r.rep k.toNat, IsTup.new _ _⟩
theorem pf {α : Type} (its : List α) : ∀ (k : Nat) (acc : List α), List.foldl (fun x1 x2 => x1 ++ x2) acc.toArray (List.replicate k its.toArray) = (acc ++ (List.replicate k its).flatten).toArray
 | 0, acc => by simp
 | k + 1, acc => by
  have e : acc.toArray ++ its.toArray = (acc ++ its).toArray := by simp
  have e2 : (acc ++ its) ++ (List.replicate k its).flatten = acc ++ (List.replicate (k + 1) its).flatten := by
   rw [List.replicate_succ, List.flatten_cons, List.append_assoc]
  rw [← e2, ← pf its k (acc ++ its), ← e, List.replicate_succ, List.foldl_cons]
def gq (z : Str) (k : Nat) : Str := ⟨(List.replicate k z.cps.toList).flatten.toArray⟩
theorem Xl : OpR X (binaryOp .Mult) (fun x y H Q => ∃ z k, x = .str z ∧ y = .int k ∧ 1 < k ∧ k < 2 ^ 63 ∧ 0 < z.length ∧ z.length * k.toNat ≤ sizeLine ∧ Q (.str (gq z k.toNat)) H) := by
 intro pins s σ H x y v u Q I rx ry h
 obtain ⟨z, k, rfl, rfl, h1, h2, h3, h4, q⟩ := h
 obtain ⟨t, rfl⟩ := rx
 obtain ⟨t', rfl⟩ := ry
 have hz : (z.length == 0) = false := by simp; omega
 have hk : (k.toNat : Int) = k := Int.toNat_of_nonneg (by omega)
 have h5 : (z.length : Int) * k ≤ 16777216 := by
  have : ((z.length * k.toNat : Nat) : Int) ≤ ((sizeLine : Nat) : Int) := Int.ofNat_le.mpr h4
  rw [Int.natCast_mul, hk] at this
  exact Int.le_trans this (by decide)
 have e : (⟨(List.replicate k.toNat z.cps).foldl (· ++ ·) #[]⟩ : Str) = gq z k.toNat := by
  have := pf z.cps.toList k.toNat []
  rw [List.nil_append, Array.toArray_toList] at this
  unfold gq
  rw [← this]
 refine PySem.P.mul_str (by rw [decide_eq_false (by omega), decide_eq_false (by omega)]; rfl) (fun _ _ hb => ?_) (fun _ _ => decide_eq_false (by omega)) ?_
 · have := (Int.le_ediv_iff_mul_le (a := (z.length : Int)) (b := (2 ^ 63 - 1)) (c := k) (by omega)).mpr (by omega)
   omega
 · rw [if_neg (by omega), if_neg (by simp [hz]; omega), e]
   refine ⟨?_, .str (gq z k.toNat), H, I.tok _, ⟨_, rfl⟩, q⟩
   show (gq z k.toNat).cps.size ≤ sizeLine
   unfold gq
   rw [List.size_toArray, Lw, Nat.mul_comm]
   exact h4
end DD
set_option genSizeOf false
namespace DD
open PySem
theorem odt [Decidable p] (h : decide p = true) : p := of_decide_eq_true h
inductive D where
 | non | bl (b : Bool) | int (i : Int) | str (x : Str) | tup (ds : List D) | loc (n : Nat)
 deriving Inhabited
mutual
noncomputable def D.beq : D → D → Bool
 | .non, .non => true
 | .bl a, .bl b => a == b
 | .int a, .int b => a == b
 | .str a, .str b => decide (a = b)
 | .tup a, .tup b => D.beqL a b
 | .loc a, .loc b => a == b
 | _, _ => false
noncomputable def D.beqL : List D → List D → Bool
 | [], [] => true
 | a :: r, b :: t => D.beq a b && D.beqL r t
 | _, _ => false
end
mutual
theorem D.beq_eq : ∀ {a b : D}, D.beq a b = true → a = b
 | .non, b, h => by cases b <;> first | rfl | simp [D.beq] at h
 | .bl x, b, h => by cases b <;> simp [D.beq] at h; rw [h]
 | .int x, b, h => by cases b <;> simp [D.beq] at h; rw [h]
 | .str x, b, h => by cases b <;> simp [D.beq] at h; rw [h]
 | .loc x, b, h => by cases b <;> simp [D.beq] at h; rw [h]
 | .tup x, b, h => by
  cases b with
  | tup y =>
   have e : x = y := D.beqL_eq (by simpa [D.beq] using h)
   rw [e]
  | _ => simp [D.beq] at h
theorem D.beqL_eq : ∀ {a b : List D}, D.beqL a b = true → a = b
 | [], [], _ => rfl
 | [], _ :: _, h => by simp [D.beqL] at h
 | _ :: _, [], h => by simp [D.beqL] at h
 | x :: r, y :: t, h => by
  simp only [D.beqL, Bool.and_eq_true] at h
  rw [D.beq_eq h.1, D.beqL_eq h.2]
end
mutual
theorem D.beq_refl : ∀ a : D, D.beq a a = true
 | .non => rfl
 | .bl x => by simp [D.beq]
 | .int x => by simp [D.beq]
 | .str x => by simp [D.beq]
 | .loc x => by simp [D.beq]
 | .tup x => by simp only [D.beq]; exact D.beqL_refl x
theorem D.beqL_refl : ∀ a : List D, D.beqL a a = true
 | [] => rfl
 | x :: r => by simp only [D.beqL, Bool.and_eq_true]; exact ⟨D.beq_refl x, D.beqL_refl r⟩
end
instance : DecidableEq D := fun a b => decidable_of_iff (D.beq a b = true) ⟨D.beq_eq, fun h => h ▸ D.beq_refl a⟩
inductive Cell where
 | lst (ds : List D)
 | frz (ds : List D)
 | dct (kvs : List (D × D))
 | dcn (kvs : List (D × D))
 | dcf (kvs : List (D × D))
 | dcg (kvs : List (D × D))
 | fnc (i : Nat)
 | ins (c : Nat) (fs : List (Str × D))
 | exn (c : Nat)
 deriving Inhabited
abbrev Sto := List Cell
abbrev Env := List (Option D)
inductive Res (α : Type) where
 | ok (a : α) (st : Sto)
 | exc (c : Nat) (st : Sto)
 | bad
def Res.bind {α β : Type} (r : Res α) (f : α → Sto → Res β) : Res β := match r with
 | .ok a st => f a st
 | .exc c st => .exc c st
 | .bad => .bad
@[simp] theorem bo {α β : Type} (a : α) (st : Sto) (f : α → Sto → Res β) : (Res.ok a st).bind f = f a st := rfl
@[simp] theorem ajt {α β : Type} (c : Nat) (st : Sto) (f : α → Sto → Res β) : (Res.exc c st : Res α).bind f = .exc c st := rfl
@[simp] theorem aju {α β : Type} (f : α → Sto → Res β) : (Res.bad : Res α).bind f = .bad := rfl
inductive Ty where
 | b (x : String) | o (n : Nat)
 deriving DecidableEq
noncomputable def Pf : Cell → Option Ty
 | .lst _ => some (.b "list")
 | .frz _ => some (.b "list")
 | .dct _ => some (.b "dict")
 | .dcn _ => some (.b "dict")
 | .dcf _ => some (.b "dict")
 | .dcg _ => some (.b "dict")
 | .fnc _ => none
 | .ins _ _ => none
 | .exn c => some (.o c)
noncomputable def Cy (st : Sto) : D → Option Ty
 | .non => some (.b "NoneType")
 | .bl _ => some (.b "bool")
 | .int _ => some (.b "int")
 | .str _ => some (.b "str")
 | .tup _ => some (.b "tuple")
 | .loc n => (st[n]?).bind Pf
noncomputable def Az (st : Sto) (n : Nat) : Option (List D) := match st[n]? with
 | some (.lst ds) => some ds
 | some (.frz ds) => some ds
 | _ => none
noncomputable def dq (st : Sto) : D → Option (List D)
 | .tup ds => some ds
 | .loc n => Az st n
 | _ => none
noncomputable def truth (st : Sto) : D → Option Bool
 | .non => some false
 | .bl b => some b
 | .int i => some (i != 0)
 | .str x => if x.length ≤ sizeLine then some ((x.length : Int) != 0) else none
 | .tup ds => some (!ds.isEmpty)
 | .loc n => (Az st n).map fun ds => !ds.isEmpty
def Ca {α : Type} : List (Option α) → Option (List α)
 | [] => some []
 | some a :: r => (Ca r).map (a :: ·)
 | none :: _ => none
noncomputable def Aq (st : Sto) : Nat → D → Option PyData
 | _, .non => some .none
 | _, .bl b => some (.bool b)
 | _, .int i => some (.int i)
 | _, .str x => if PyData.canLay0 (.str x) = true then some (.str x) else none
 | 0, _ => none
 | n + 1, .tup ds => (Ca (ds.map (Aq st n))).map .tuple
 | n + 1, .loc m => (Az st m).bind fun ds => (Ca (ds.map (Aq st n))).map .list
noncomputable def eqV (st : Sto) (a b : D) : Option Bool := match Aq st 40 a, Aq st 40 b with
 | some x, some y => some (PyData.eqv x y)
 | _, _ => none
inductive Op where
 | add | sub | mul | fdiv | mod | pow
inductive Cm where
 | eq | ne | lt | le | gt | ge | isN | notN | inL | notIn
inductive Bt where
 | absB | lenB | listB | tupleB | allB | anyB | lenSetB
 deriving DecidableEq
inductive Mt where
 | append | get | upd
set_option genInjectivity false
mutual
inductive E where
 | var (i : Nat)
 | cst (d : D)
 | tupE (es : Es)
 | lstE (es : Es)
 | op (o : Op) (a b : E)
 | cm (c : Cm) (a b : E)
 | andE (a b : E)
 | orE (a b : E)
 | notE (a : E)
 | ifE (c a b : E)
 | call (f : Nat) (es : Es) (dv : List D)
 | bt (f : Bt) (es : Es)
 | ix (a b : E)
 | isi (a : E) (t : Ty)
 | sl (k : Nat) (a : E) (es : Es)
 | chn (c1 c2 : Cm) (a b c : E)
 | fld (c : Nat) (o : E) (f : Str)
 | mk (c f : Nat) (es : Es)
 | En (c f : Nat) (m : Str) (o : E) (es : Es)
 | callV (is : List Nat) (f : E) (es : Es)
 | tabV (rows : List (Str × D)) (k : E)
 | tabIn (neg : Bool) (rows : List Str) (k : E)
 | tabF (rows : List (Str × Nat)) (k : E)
 | mt (m : Mt) (o : E) (es : Es)
 | dcomp (n : Nat) (one : Bool) (nl : Nat) (tg : List Nat) (fv : List Nat) (it : E) (ifs : Es) (kx vx : E)
 | comp (n : Nat) (one : Bool) (nl : Nat) (tg : List Nat) (fv : List Nat) (it : E) (ifs : Es) (elt : E)
inductive Es where
 | nil
 | cons (e : E) (es : Es)
end
mutual
inductive S where
 | set (i : Nat) (e : E)
 | unp (is : List Nat) (e : E)
 | par (i j : Nat) (a b : E)
 | aug (i : Nat) (o : Op) (e : E)
 | ifS (c : E) (a b : Ss)
 | whileS (c : E) (b : Ss)
 | forS (tg : List Nat) (one : Bool) (k : Bool) (it : E) (b : Ss)
 | forR (tg : List Nat) (es : Es) (b : Ss)
 | forZT (t1 : List Nat) (o1 : Bool) (t2 : List Nat) (o2 : Bool) (a c : E) (b : Ss)
 | setf (c : Nat) (o : E) (f : Str) (e : E)
 | ret (e : E)
 | ex (e : E)
 | raiseS (c : Nat)
 | tryS (b : Ss) (c : Nat) (i : Nat) (h : Ss)
 | pass
inductive Ss where
 | nil
 | cons (s : S) (r : Ss)
end
set_option genInjectivity true
noncomputable def BIG : Nat := 2 ^ 4000
def ib (i : Int) : Prop := -(2 ^ 64) < i ∧ i < 2 ^ 64
instance (i : Int) : Decidable (ib i) := by unfold ib; infer_instance
def fw (i j : Int) : Prop := ib i ∨ ib j ∨ (i.natAbs < BIG ∧ j.natAbs < BIG)
instance (i j : Int) : Decidable (fw i j) := by unfold fw; infer_instance
def Fw (j : Int) : Prop := j ≠ 0 ∧ j.natAbs < BIG
instance (j : Int) : Decidable (Fw j) := by unfold Fw; infer_instance
def Iz (i j : Int) : Prop := 0 ≤ j ∧ j ≤ 1000000 ∧ i.natAbs < 2 ^ 64
instance (i j : Int) : Decidable (Iz i j) := by unfold Iz; infer_instance
noncomputable def Cc (st : Sto) (n : Nat) : Option (List (D × D)) := match st[n]? with
 | some (.dct kvs) => some kvs
 | _ => none
noncomputable def bp (kvs : List (D × D)) (k : D) : Option D := (kvs.find? fun p => decide (p.1 = k)).map (·.2)
noncomputable def Fd (kvs : List (D × D)) (k v : D) : List (D × D) := if (kvs.any fun p => decide (p.1 = k)) = true then kvs.map fun p => if p.1 = k then (p.1, v) else p else kvs ++ [(k, v)]
noncomputable def Dq : D → Bool
 | .str _ => true
 | .int _ => true
 | _ => false
noncomputable def okN : Nat → D → Bool
 | _, .int _ => true
 | _, .str x => PyData.canLay0 (.str x)
 | n + 1, .tup ds => ds.all (okN n)
 | _, _ => false
noncomputable def Xm : D → Bool
 | .tup ds => okN 8 (.tup ds)
 | _ => false
noncomputable def jw (st : Sto) (n : Nat) : Option (List (D × D)) := match st[n]? with
 | some (.dcn kvs) => some kvs
 | _ => none
noncomputable def opD (o : Op) (a b : D) (st : Sto) : Res D := match o, a, b with
 | .add, .int i, .int j => .ok (.int (i + j)) st
 | .sub, .int i, .int j => .ok (.int (i - j)) st
 | .mul, .int i, .int j => if fw i j then .ok (.int (i * j)) st else .bad
 | .fdiv, .int i, .int j => if Fw j then .ok (.int (i.fdiv j)) st else .bad
 | .mod, .int i, .int j => if j ≠ 0 then .ok (.int (i.fmod j)) st else .bad
 | .pow, .int i, .int j => if Iz i j then .ok (.int (i ^ j.toNat)) st else .bad
 | .add, .str a, .str b => if a.length + b.length ≤ sizeLine then .ok (.str (a ++ b)) st else .bad
 | .add, .loc n, .loc m => match st[n]?, st[m]? with
  | some (.lst xs), some (.lst ys) => if xs.length + ys.length ≤ sizeLine then .ok (.loc st.length) (st ++ [.lst (xs ++ ys)]) else .bad
  | _, _ => .bad
 | .mul, .str z, .int k => if 1 < k ∧ k < 2 ^ 63 ∧ 0 < z.length ∧ z.length * k.toNat ≤ sizeLine then .ok (.str (gq z k.toNat)) st else .bad
 | .mul, .tup ds, .int k => if -(2 ^ 63) ≤ k ∧ k < 2 ^ 63 ∧ ds.length * k.toNat ≤ sizeLine then .ok (.tup (List.replicate k.toNat ds).flatten) st else .bad
 | .mul, .loc n, .int k => match st[n]? with
  | some (.lst xs) => if -(2 ^ 63) ≤ k ∧ k < 2 ^ 63 ∧ xs.length * k.toNat ≤ sizeLine then .ok (.loc st.length) (st ++ [.lst (List.replicate k.toNat xs).flatten]) else .bad
  | _ => .bad
 | _, _, _ => .bad
noncomputable def lx : D → Bool
 | .non => true
 | .bl _ => true
 | .int _ => true
 | .str _ => true
 | _ => false
noncomputable def toV : D → L2.V
 | .non => .non
 | .bl b => .bl b
 | .int i => .int i
 | .str x => .str x
 | _ => .non
noncomputable def inS (st : Sto) (a b : D) : Option Bool := match Aq st 40 a, Aq st 41 b with
 | some x, some (.list ys) => some (ys.any fun y => PyData.eqv y x)
 | some x, some (.tuple ys) => some (ys.any fun y => PyData.eqv y x)
 | _, _ => none
noncomputable def inD (st : Sto) (a b : D) : Option Bool := match b with
 | .str y => match a with | .str x => some (!(Builtin.Str.occurrences y x 0 y.length 1).isEmpty) | _ => none
 | _ => inS st a b
def Pg (st : Sto) (n : Nat) : Option (List (D × D)) := match st[n]? with
 | some (.dcg kvs) => some kvs
 | _ => none
noncomputable def cmD (c : Cm) (a b : D) (st : Sto) : Res D := match c with
 | .eq => match eqV st a b with | some x => .ok (.bl x) st | none => .bad
 | .ne => match eqV st a b with | some x => .ok (.bl (!x)) st | none => .bad
 | .lt => match a, b with | .int i, .int j => .ok (.bl (decide (i < j))) st | _, _ => .bad
 | .le => match a, b with | .int i, .int j => .ok (.bl (decide (i ≤ j))) st | _, _ => .bad
 | .gt => match a, b with | .int i, .int j => .ok (.bl (decide (j < i))) st | _, _ => .bad
 | .ge => match a, b with | .int i, .int j => .ok (.bl (decide (j ≤ i))) st | _, _ => .bad
 | .isN => match b with | .non => .ok (.bl (decide (a = .non))) st | .bl c => .ok (.bl (decide (a = .bl c))) st | _ => .bad
 | .notN => match b with | .non => .ok (.bl (!decide (a = .non))) st | .bl c => .ok (.bl (!decide (a = .bl c))) st | _ => .bad
 | .inL => match inD st a b with | some x => .ok (.bl x) st | none => .bad
 | .notIn => match inD st a b with | some x => .ok (.bl (!x)) st | none => .bad
noncomputable def atD (xs : List D) (i : Int) : Option D := L2.atI xs i
noncomputable def ixS (a b : D) (st : Sto) : Res D := match b with
 | .int i => match dq st a with
  | some xs => match atD xs i with | some d => .ok d st | none => .bad
  | none => match a with
   | .str z => match L2.atI z.cps.toList i with
    | some c => if z.length ≤ sizeLine then .ok (.str ⟨#[c]⟩) st else .bad
    | none => .bad
   | _ => .bad
 | _ => .bad
noncomputable def ixD (a b : D) (st : Sto) : Res D := ixS a b st
noncomputable def Jw (k : Nat) (ds : List D) : Option (Option Int × Option Int) := match k, ds with
 | 0, [] => some (none, none)
 | 1, [.int i] => some (some i, none)
 | 2, [.int j] => some (none, some j)
 | 3, [.int i, .int j] => some (some i, some j)
 | _, _ => none
def cutD {α : Type} (xs : List α) (lo hi : Option Int) : List α := (xs.drop (HT.sIx xs.length 0 lo)).take (HT.sIx xs.length xs.length hi - HT.sIx xs.length 0 lo)
noncomputable def slD (k : Nat) (a : D) (ds : List D) (st : Sto) : Res D := match Jw k ds with
 | some (lo, hi) => match a with
  | .tup xs => .ok (.tup (cutD xs lo hi)) st
  | .loc n => match Az st n with
   | some xs => .ok (.loc st.length) (st ++ [.lst (cutD xs lo hi)])
   | none => .bad
  | _ => .bad
 | none => .bad
noncomputable def ef : List D → Option (List Bool)
 | [] => some []
 | .bl b :: r => (ef r).map (b :: ·)
 | _ => none
noncomputable def ph (xs : List D) : List D := xs.foldl (fun acc x => if x ∈ acc then acc else acc ++ [x]) []
noncomputable def Dr (f : Str) (v : D) : List (Str × D) → List (Str × D)
 | [] => [(f, v)]
 | (g, x) :: r => if g = f then (g, v) :: r else (g, x) :: Dr f v r
noncomputable def btD (f : Bt) (ds : List D) (st : Sto) : Res D := match f with
 | .absB => (match ds with | [.int i] => .ok (.int (if i < 0 then -i else i)) st | _ => .bad)
 | .lenB => (match ds with
  | [.tup xs] => .ok (.int xs.length) st
  | [.loc n] => (match Az st n with | some xs => .ok (.int xs.length) st | none => .bad)
  | [.str z] => if z.length ≤ sizeLine then .ok (.int z.length) st else .bad
  | _ => .bad)
 | .listB => (match ds with | [d] => (match dq st d with | some xs => .ok (.loc st.length) (st ++ [.lst xs]) | none => .bad) | _ => .bad)
 | .tupleB => (match ds with | [d] => (match dq st d with | some xs => .ok (.tup xs) st | none => .bad) | _ => .bad)
 | .allB => (match ds with | [.loc n] => (match (Az st n).bind ef with | some bs => .ok (.bl (bs.all id)) st | none => .bad) | _ => .bad)
 | .lenSetB => (match ds with | [.loc n] => (match Az st n with | some xs => if xs.all Dq = true ∧ xs.length < 4000 then .ok (.int (ph xs).length) st else .bad | none => .bad) | _ => .bad)
 | .anyB => (match ds with | [.loc n] => (match (Az st n).bind ef with | some bs => .ok (.bl (bs.any id)) st | none => .bad) | _ => .bad)
noncomputable def ja (st : Sto) : D → Bool
 | .loc n => match st[n]? with | some (.lst _) => true | _ => false
 | _ => false
noncomputable def rdy (m : Mt) (st : Sto) (d : D) : Bool := match m with
 | .get => (match d with | .loc n => (Cc st n).isSome | _ => false)
 | .upd => (match d with | .loc n => (Cc st n).isSome | _ => false)
 | _ => ja st d
noncomputable def Lx (kvs more : List (D × D)) : List (D × D) := more.foldl (fun acc kv => Fd acc kv.1 kv.2) kvs
noncomputable def mtD (m : Mt) (o : D) (ds : List D) (st : Sto) : Res D := match m with
 | .append => (match o, ds with
  | .loc n, [d] => (match st[n]? with
   | some (.lst xs) => if xs.length < sizeLine then .ok .non (st.set n (.lst (xs ++ [d]))) else .bad
   | _ => .bad)
  | _, _ => .bad)
 | .get => (match o with
  | .loc n => (match Cc st n with
   | some kvs => (match ds with
    | [k] => if Dq k then .ok ((bp kvs k).getD .non) st else .bad
    | [k, x] => if Dq k then .ok ((bp kvs k).getD x) st else .bad
    | _ => .bad)
   | none => .bad)
  | _ => .bad)
 | .upd => (match o, ds with
  | .loc n, [.loc m] => (match Cc st n, Cc st m with
   | some kvs, some more => if n ≠ m ∧ kvs.length + more.length ≤ sizeLine then .ok .non (st.set n (.dct (Lx kvs more))) else .bad
   | _, _ => .bad)
  | _, _ => .bad)
noncomputable def subB : String → String → Option Bool := fun t c => if t = c then some true else if t = "bool" ∧ c = "int" then some true else if c = "bool" ∨ c = "int" ∨ c = "tuple" ∨ c = "list" ∨ c = "str" ∨ c = "dict" then some false else none
noncomputable def Dw (tab : Nat → Ty → Option Bool) : Ty → Ty → Option Bool
 | .b t, .b c => subB t c
 | .b _, .o _ => none
 | .o n, c => tab n c
abbrev Or := Nat → List D → Sto → Res D
section
variable (tab : Nat → Ty → Option Bool) (call : Or)
noncomputable def cz (env : Env) (i : Nat) : Option D := (env[i]?).join
noncomputable def cb : List Nat → List D → Env → Option Env
 | [], [], env => some env
 | i :: r, d :: t, env => if i < env.length then cb r t (env.set i (some d)) else none
 | _, _, _ => none
noncomputable def store (tg : List Nat) (one : Bool) (d : D) (env : Env) : Option Env := if one then cb tg [d] env else match d with
 | .tup ds => cb tg ds env
 | _ => none
def fe (xs ys : List D) : List D := List.zipWith (fun x y => .tup [x, y]) xs ys
def Gq (t1 : List Nat) (o1 : Bool) (t2 : List Nat) (o2 : Bool) (d : D) (env : Env) : Option Env := match d with
 | .tup [x, y] => (store t1 o1 x env).bind fun env1 => store t2 o2 y env1
 | _ => none
noncomputable def gr (k : Bool) (st : Sto) : D → Option (List D × Option Nat)
 | .tup ds => if k then some (ds, none) else none
 | .loc n => if k then none else (Az st n).map fun ds => (ds, some n)
 | _ => none
noncomputable def stays (st : Sto) (p : Option Nat) (ds : List D) : Bool := match p with
 | none => true
 | some n => decide (Az st n = some ds)
noncomputable def Fe (lo : Int) (n : Nat) : List D := (List.range n).map fun k => .int (lo + (k : Nat))
noncomputable def Ef (ds : List D) : Option (List D) := match ds with
 | [.int j] => if -(2 ^ 62) ≤ j ∧ j < 2 ^ 62 then some (Fe 0 j.toNat) else none
 | [.int i, .int j] => if -(2 ^ 62) ≤ i ∧ i < 2 ^ 62 ∧ -(2 ^ 62) ≤ j ∧ j < 2 ^ 62 then some (Fe i (j - i).toNat) else none
 | _ => none
noncomputable def compLoop (all : List D) (p : Option Nat) (n0 : Nat) (body : D → Sto → Res (Option D)) : List D → Sto → Res Unit
  | [], st => if stays st p all then .ok () st else .bad
  | d :: r, st => if stays st p all then (match body d st with
      | .ok (some y) st' => (match st'[n0]? with
        | some (.lst ys) => if ys.length < sizeLine then compLoop all p n0 body r (st'.set n0 (.lst (ys ++ [y]))) else .bad
        | _ => .bad)
      | .ok none st' => compLoop all p n0 body r st'
      | _ => .bad)
    else .bad
noncomputable def Bs (all : List D) (p : Option Nat) (n0 : Nat) (body : D → Sto → Res (Option (D × D))) : List D → Sto → Res Unit
  | [], st => if stays st p all then .ok () st else .bad
  | d :: r, st => if stays st p all then (match body d st with
      | .ok (some (k, y)) st' => (match st'[n0]? with
        | some (.dct kvs) => if kvs.length < sizeLine ∧ Dq k = true then Bs all p n0 body r (st'.set n0 (.dct (Fd kvs k y))) else .bad
        | _ => .bad)
      | .ok none st' => Bs all p n0 body r st'
      | _ => .bad)
    else .bad
noncomputable def eg (k : Nat) (st : Sto) (d : D) : Option (List D × Option Nat) := match k, d with
 | 0, .loc n => (Az st n).map fun ds => (ds, some n)
 | 1, .tup ds => some (ds, none)
 | 2, .tup ds => (Ef ds).map fun xs => (xs, none)
 | 4, .loc n => (match st[n]? with | some (.dcf kvs) => some (kvs.map (·.1), none) | _ => none)
 | 5, .loc n => (match st[n]? with | some (.dcg kvs) => some (kvs.map (·.1), none) | _ => none)
 | 6, .loc n => (match st[n]? with | some (.dcg kvs) => some (kvs.map fun p => .tup [p.1, p.2], none) | _ => none)
 | 3, .str z => if z.length ≤ sizeLine then some (z.cps.toList.map fun c => .str ⟨#[c]⟩, none) else none
 | _, _ => none
noncomputable def cq (nl : Nat) (fv : List Nat) (env : Env) : Env := List.replicate nl none ++ fv.map (cz env)
mutual
noncomputable def Ad : E → Env → Sto → Res D
  | .var i, env, st => match cz env i with | some d => .ok d st | none => .bad
  | .cst d, _, st => .ok d st
  | .tupE es, env, st => (Au es env st).bind fun ds st => if ds.length ≤ sizeLine then .ok (.tup ds) st else .bad
  | .lstE es, env, st => (Au es env st).bind fun ds st => if ds.length ≤ sizeLine then .ok (.loc st.length) (st ++ [.lst ds]) else .bad
  | .op o a b, env, st => (Ad a env st).bind fun x st => (Ad b env st).bind fun y st => opD o x y st
  | .cm c a b, env, st => (Ad a env st).bind fun x st => (Ad b env st).bind fun y st => cmD c x y st
  | .andE a b, env, st => (Ad a env st).bind fun x st => match x with | .bl true => Ad b env st | .bl false => .ok (.bl false) st | _ => .bad
  | .orE a b, env, st => (Ad a env st).bind fun x st => match x with | .bl true => .ok (.bl true) st | .bl false => Ad b env st | _ => .bad
  | .notE a, env, st => (Ad a env st).bind fun x st => match x with | .bl b => .ok (.bl (!b)) st | _ => .bad
  | .ifE c a b, env, st => (aq c env st).bind fun x st => if x then Ad a env st else Ad b env st
  | .call f es dv, env, st => (Au es env st).bind fun ds st => call f (ds ++ dv) st
  | .bt f es, env, st => (Au es env st).bind fun ds st => btD f ds st
  | .ix a b, env, st => (Ad a env st).bind fun x st => (Ad b env st).bind fun y st => ixD x y st
  | .isi a t, env, st => (Ad a env st).bind fun x st => match (Cy st x).bind fun u => Dw tab u t with | some b => .ok (.bl b) st | none => .bad
  | .sl k a es, env, st => (Ad a env st).bind fun x st => (Eg es env st).bind fun ds st => slD k x ds st
  | .chn c1 c2 a b c, env, st => (Ad a env st).bind fun x st => (Ad b env st).bind fun y st => (cmD c1 x y st).bind fun z st => match z with | .bl true => (Ad c env st).bind fun w st => cmD c2 y w st | .bl false => .ok (.bl false) st | _ => .bad
  | .fld c o f, env, st => (Ad o env st).bind fun x st => match x with
      | .loc n => match st[n]? with | some (.ins c' fs) => (match fs.lookup f with | some d => if c' = c then .ok d st else .bad | none => .bad) | _ => .bad
      | _ => .bad
  | .mk c f es, env, st => (Au es env st).bind fun ds st => (call f (.loc st.length :: ds) (st ++ [.ins c []])).bind fun r st' => match r with | .non => .ok (.loc st.length) st' | _ => .bad
  | .En c f m o es, env, st => (Ad o env st).bind fun x st => match x with
      | .loc n => match st[n]? with | some (.ins c' fs) => if c' = c ∧ fs.lookup m = none then (Au es env st).bind fun ds st => call f (.loc n :: ds) st else .bad | _ => .bad
      | _ => .bad
  | .callV is f es, env, st => (Ad f env st).bind fun x st => match x with
      | .loc n => match st[n]? with | some (.fnc i) => if is.contains i = true then (Au es env st).bind fun ds st => call i ds st else .bad | _ => .bad
      | _ => .bad
  | .tabV rows k, env, st => (Ad k env st).bind fun x st => match x with
      | .str z => (match rows.lookup z with | some d => .ok d st | none => .bad)
      | _ => .bad
  | .tabIn neg rows k, env, st => (Ad k env st).bind fun x st => match x with
      | .str z => .ok (.bl (xor neg (decide (z ∈ rows)))) st
      | .non => .ok (.bl neg) st
      | _ => .bad
  | .tabF rows k, env, st => (Ad k env st).bind fun x st => match x with
      | .str z => (match rows.lookup z with | some i => .ok (.loc st.length) (st ++ [.fnc i]) | none => .bad)
      | _ => .bad
  | .mt m o es, env, st => (Ad o env st).bind fun x st => if rdy m st x then (Au es env st).bind fun ds st => mtD m x ds st else .bad
  | .dcomp n one nl tg fv it ifs kx vx, env, st => (Ad it env st).bind fun d st => match eg n st d with
      | some (xs, p) => (Bs xs p st.length (fun d st => match store tg one d (cq nl fv env) with
          | some env' => (Cz ifs env' st).bind fun b st => if b then (Ad kx env' st).bind fun k st => (Ad vx env' st).bind fun y st => .ok (some (k, y)) st else .ok none st
          | none => .bad) xs (st ++ [.dct []])).bind fun _ st' => .ok (.loc st.length) st'
      | none => .bad
  | .comp n one nl tg fv it ifs elt, env, st => (Ad it env st).bind fun d st => match eg n st d with
      | some (xs, p) => (compLoop xs p st.length (fun d st => match store tg one d (cq nl fv env) with
          | some env' => (Cz ifs env' st).bind fun b st => if b then (Ad elt env' st).bind fun y st => .ok (some y) st else .ok none st
          | none => .bad) xs (st ++ [.lst []])).bind fun _ st' => .ok (.loc st.length) st'
      | none => .bad
noncomputable def Cz : Es → Env → Sto → Res Bool
 | .nil, _, st => .ok true st
 | .cons c r, env, st => (aq c env st).bind fun b st => if b then Cz r env st else .ok false st
noncomputable def Eg : Es → Env → Sto → Res (List D)
 | .nil, _, st => .ok [] st
 | .cons e es, env, st => (Ad e env st).bind fun d st => match d with | .int _ => (Eg es env st).bind fun ds st => .ok (d :: ds) st | _ => .bad
noncomputable def Au : Es → Env → Sto → Res (List D)
 | .nil, _, st => .ok [] st
 | .cons e es, env, st => (Ad e env st).bind fun d st => (Au es env st).bind fun ds st => .ok (d :: ds) st
noncomputable def aq : E → Env → Sto → Res Bool
  | .andE a b, env, st => (aq a env st).bind fun x st => if x then aq b env st else .ok false st
  | .orE a b, env, st => (aq a env st).bind fun x st => if x then .ok true st else aq b env st
  | .notE a, env, st => (aq a env st).bind fun x st => .ok (!x) st
  | .var i, env, st => match cz env i with | some d => (match truth st d with | some b => .ok b st | none => .bad) | none => .bad
  | .cst d, env, st => match truth st d with | some b => .ok b st | none => .bad
  | .cm c a b, env, st => (Ad a env st).bind fun x st => (Ad b env st).bind fun y st => (cmD c x y st).bind fun d st => match d with | .bl b => .ok b st | _ => .bad
  | .call f es dv, env, st => (Au es env st).bind fun ds st => (call f (ds ++ dv) st).bind fun d st => match truth st d with | some b => .ok b st | none => .bad
  | .bt f es, env, st => (Au es env st).bind fun ds st => (btD f ds st).bind fun d st => match truth st d with | some b => .ok b st | none => .bad
  | .ix a b, env, st => (Ad a env st).bind fun x st => (Ad b env st).bind fun y st => (ixD x y st).bind fun d st => match truth st d with | some b => .ok b st | none => .bad
  | .mt m o es, env, st => (Ad o env st).bind fun x st => if rdy m st x then (Au es env st).bind fun ds st => (mtD m x ds st).bind fun d st => match truth st d with | some b => .ok b st | none => .bad else .bad
  | .isi a t, env, st => (Ad a env st).bind fun x st => match (Cy st x).bind fun u => Dw tab u t with | some b => .ok b st | none => .bad
  | .tabIn neg rows k, env, st => (Ad k env st).bind fun x st => match x with
      | .str z => .ok (xor neg (decide (z ∈ rows))) st
      | .non => .ok neg st
      | _ => .bad
  | .chn c1 c2 a b c, env, st => (Ad a env st).bind fun x st => (Ad b env st).bind fun y st => (cmD c1 x y st).bind fun z st => match z with | .bl true => (Ad c env st).bind fun w st => (cmD c2 y w st).bind fun d st => (match d with | .bl b => .ok b st | _ => .bad) | .bl false => .ok false st | _ => .bad
  | _, _, _ => .bad
end
inductive Fl where
 | next (env : Env) | ret (d : D) | brk (env : Env) | cont (env : Env)
noncomputable def forLoop (all : List D) (p : Option Nat) (body : D → Env → Sto → Res Fl) : List D → Env → Sto → Res Fl
  | [], env, st => if stays st p all then .ok (.next env) st else .bad
  | d :: r, env, st => if stays st p all then (body d env st).bind fun f st' => match f with
      | .next env' => forLoop all p body r env' st'
      | .cont env' => forLoop all p body r env' st'
      | .brk env' => .ok (.next env') st'
      | .ret x => .ok (.ret x) st'
    else .bad
def By (ok : Sto → Bool) (body : D → Env → Sto → Res Fl) : List D → Env → Sto → Res Fl
  | [], env, st => if ok st then .ok (.next env) st else .bad
  | d :: r, env, st => if ok st then (body d env st).bind fun f st' => match f with
      | .next env' => By ok body r env' st'
      | .cont env' => By ok body r env' st'
      | .brk env' => .ok (.next env') st'
      | .ret x => .ok (.ret x) st'
    else .bad
noncomputable def whileLoop (test : Env → Sto → Res Bool) (body : Env → Sto → Res Fl) : Nat → Env → Sto → Res Fl
  | 0, _, _ => .bad
  | F + 1, env, st => (test env st).bind fun b st => if b then (body env st).bind fun f st' => match f with
      | .next env' => whileLoop test body F env' st'
      | .cont env' => whileLoop test body F env' st'
      | .brk env' => .ok (.next env') st'
      | .ret x => .ok (.ret x) st'
    else .ok (.next env) st
noncomputable def blank (env : Env) (i : Nat) (d : D) : Env := (List.replicate env.length none).set i (some d)
mutual
noncomputable def An (F : Nat) : S → Env → Sto → Res Fl
  | .pass, env, st => .ok (.next env) st
  | .set i e, env, st => (Ad tab call e env st).bind fun d st => if i < env.length then .ok (.next (env.set i (some d))) st else .bad
  | .unp is e, env, st => (Ad tab call e env st).bind fun d st => match store is false d env with | some env' => .ok (.next env') st | none => .bad
  | .par i j a b, env, st => (Ad tab call a env st).bind fun x st => (Ad tab call b env st).bind fun y st => if i < env.length ∧ j < env.length then .ok (.next ((env.set i (some x)).set j (some y))) st else .bad
  | .aug i o e, env, st => match cz env i with
      | some (.int x) => (Ad tab call e env st).bind fun y st => match y with
        | .int j => (opD o (.int x) (.int j) st).bind fun z st => if i < env.length then .ok (.next (env.set i (some z))) st else .bad
        | _ => .bad
      | _ => .bad
  | .setf c o f e, env, st => (Ad tab call e env st).bind fun y st => (Ad tab call o env st).bind fun x st => match x with
      | .loc n => match st[n]? with | some (.ins c' fs) => if fs.length < 900 ∧ c' = c then .ok (.next env) (st.set n (.ins c (Dr f y fs))) else .bad | _ => .bad
      | _ => .bad
  | .ifS c a b, env, st => (aq tab call c env st).bind fun x st => if x then aj F a env st else aj F b env st
  | .whileS c b, env, st => whileLoop (aq tab call c) (aj F b) F env st
  | .forR tg es b, env, st => (Au tab call es env st).bind fun ds st => match Ef ds with
      | some xs => forLoop xs none (fun d env st => match store tg true d env with | some env' => aj F b env' st | none => .bad) xs env st
      | none => .bad
  | .forS tg one k it b, env, st => (Ad tab call it env st).bind fun d st => match gr k st d with
      | some (xs, p) => forLoop xs p (fun d env st => match store tg one d env with | some env' => aj F b env' st | none => .bad) xs env st
      | none => .bad
  | .forZT t1 o1 t2 o2 a c b, env, st => (Au tab call (.cons a (.cons c .nil)) env st).bind fun ds st => match ds with
      | [.tup xs, .tup ys] => if xs.length ≤ ys.length then By (fun _ => true) (fun d env st => match Gq t1 o1 t2 o2 d env with | some env' => aj F b env' st | none => .bad) (fe xs ys) env st else .bad
      | _ => .bad
  | .ret e, env, st => (Ad tab call e env st).bind fun d st => .ok (.ret d) st
  | .ex e, env, st => (Ad tab call e env st).bind fun _ st => .ok (.next env) st
  | .raiseS c, _, st => .exc c st
  | .tryS b c i h, env, st => match aj F b env st with
      | .exc k st' => match tab k (.o c) with
        | some true => if i < env.length then (match aj F h (blank env i (.loc st'.length)) (st' ++ [.exn k]) with
            | .ok (.next env2) st'' => .ok (.next (env2.set i none)) st''
            | .ok (.ret d) st'' => .ok (.ret d) st''
            | _ => .bad)
          else .bad
        | _ => .bad
      | r => r
noncomputable def aj (F : Nat) : Ss → Env → Sto → Res Fl
  | .nil, env, st => .ok (.next env) st
  | .cons s r, env, st => (An F s env st).bind fun f st => match f with
      | .next env' => aj F r env' st
      | f => .ok f st
end
end
structure Fn where
 np : Nat
 nl : Nat
 body : Ss
noncomputable def fin (r : Res Fl) : Res D := r.bind fun f st => match f with
 | .next _ => .ok .non st
 | .ret d => .ok d st
 | _ => .bad
noncomputable def Bw (tab : Nat → Ty → Option Bool) (fns : List Fn) (F : Nat) : Nat → Or
 | 0 => fun _ _ _ => .bad
 | n + 1 => fun f args st => match fns[f]? with
  | some fn => if args.length = fn.np ∧ fn.np ≤ fn.nl then fin (aj tab (Bw tab fns F n) F fn.body (args.map some ++ List.replicate (fn.nl - fn.np) none) st) else .bad
  | none => .bad
end DD
namespace DD
open PySem L2
structure CW where
 w : World
 f : Nat → Addr
 fn : Nat → Addr
instance : CoeFun CW (fun _ => Nat → Addr) := ⟨CW.f⟩
section
variable (K : PySem.W.Frag)
mutual
def Rep (rho : List Addr) (H : Hp) : D → V → Prop
 | .non, v => v = .non
 | .bl b, v => v = .bl b
 | .int i, v => v = .int i
 | .str x, v => v = .str x
 | .tup ds, v => ∃ a vs, v = .ref a ∧ SqT K H a vs ∧ RepL rho H ds vs
 | .loc n, v => ∃ a, rho[n]? = some a ∧ v = .ref a
def RepL (rho : List Addr) (H : Hp) : List D → List V → Prop
 | [], vs => vs = []
 | d :: r, vs => ∃ v t, vs = v :: t ∧ Rep rho H d v ∧ RepL rho H r t
end
structure Keep (rho : List Addr) (H : Hp) (rho' : List Addr) (H' : Hp) : Prop where
 ext : ∃ m, rho' = rho ++ m
 tup : ∀ a xs, SqT K H a xs → SqT K H' a xs
 fz : ∀ a o u, H a = some (.frz o u) → H' a = some (.frz o u)
variable {K}
theorem Keep.refl (rho : List Addr) (H : Hp) : Keep K rho H rho H := ⟨⟨[], by simp⟩, fun _ _ h => h, fun _ _ _ h => h⟩
theorem Keep.trans {r1 r2 r3 : List Addr} {H1 H2 H3 : Hp} (a : Keep K r1 H1 r2 H2) (b : Keep K r2 H2 r3 H3) : Keep K r1 H1 r3 H3 := by
 obtain ⟨⟨m, rfl⟩, p, p2⟩ := a
 obtain ⟨⟨k, rfl⟩, q, q2⟩ := b
 exact ⟨⟨m ++ k, by simp⟩, fun a xs h => q a xs (p a xs h), fun a o ws h => q2 a o ws (p2 a o ws h)⟩
theorem Keep.at {r1 r2 : List Addr} {H1 H2 : Hp} (k : Keep K r1 H1 r2 H2) {n : Nat} {a : Addr} (h : r1[n]? = some a) : r2[n]? = some a := by
 obtain ⟨⟨m, rfl⟩, _⟩ := k
 have : n < r1.length := (List.getElem?_eq_some_iff.mp h).1
 rw [List.getElem?_append_left this]; exact h
mutual
theorem Rep.mono {r1 r2 : List Addr} {H1 H2 : Hp} (k : Keep K r1 H1 r2 H2) : ∀ {d : D} {v : V}, Rep K r1 H1 d v → Rep K r2 H2 d v
 | .non, v, h => by simpa [Rep] using h
 | .bl b, v, h => by simpa [Rep] using h
 | .int b, v, h => by simpa [Rep] using h
 | .str b, v, h => by simpa [Rep] using h
 | .tup ds, v, h => by
  simp only [Rep] at h ⊢
  obtain ⟨a, vs, e, q, r⟩ := h
  exact ⟨a, vs, e, k.tup a vs q, RepL.mono k r⟩
 | .loc n, v, h => by
  simp only [Rep] at h ⊢
  obtain ⟨a, e, q⟩ := h
  exact ⟨a, k.at e, q⟩
theorem RepL.mono {r1 r2 : List Addr} {H1 H2 : Hp} (k : Keep K r1 H1 r2 H2) : ∀ {d : List D} {v : List V}, RepL K r1 H1 d v → RepL K r2 H2 d v
 | [], v, h => by simpa [RepL] using h
 | x :: r, v, h => by
  simp only [RepL] at h ⊢
  obtain ⟨y, t, e, p, q⟩ := h
  exact ⟨y, t, e, Rep.mono k p, RepL.mono k q⟩
end
theorem RepL.length : ∀ {ds : List D} {vs : List V}, RepL K r H ds vs → ds.length = vs.length
 | [], vs, h => by simp only [RepL] at h; subst h; rfl
 | x :: t, vs, h => by
  simp only [RepL] at h
  obtain ⟨y, u, rfl, _, q⟩ := h
  simp [RepL.length q]
theorem RepL.get : ∀ {ds : List D} {vs : List V} {i : Nat} {d : D}, RepL K r H ds vs → ds[i]? = some d → ∃ v, vs[i]? = some v ∧ Rep K r H d v
 | [], vs, i, d, h, e => by simp at e
 | x :: t, vs, 0, d, h, e => by
  simp only [RepL] at h
  obtain ⟨y, u, rfl, p, q⟩ := h
  simp at e; subst e
  exact ⟨y, rfl, p⟩
 | x :: t, vs, i + 1, d, h, e => by
  simp only [RepL] at h
  obtain ⟨y, u, rfl, p, q⟩ := h
  simp at e
  obtain ⟨v, e1, e2⟩ := RepL.get q e
  exact ⟨v, by simpa using e1, e2⟩
theorem RepL.append : ∀ {ds es : List D} {vs us : List V}, RepL K r H ds vs → RepL K r H es us → RepL K r H (ds ++ es) (vs ++ us)
 | [], es, vs, us, h, g => by simp only [RepL] at h; subst h; simpa using g
 | x :: t, es, vs, us, h, g => by
  simp only [RepL] at h
  obtain ⟨y, u, rfl, p, q⟩ := h
  show RepL K r H (x :: (t ++ es)) (y :: (u ++ us))
  simp only [RepL]
  exact ⟨y, u ++ us, rfl, p, RepL.append q g⟩
theorem RepL.rep (h : RepL K r H ds vs) : ∀ k : Nat, RepL K r H (List.replicate k ds).flatten (List.replicate k vs).flatten
 | 0 => by simp [RepL]
 | k + 1 => by
  rw [List.replicate_succ, List.replicate_succ, List.flatten_cons, List.flatten_cons]
  exact h.append (RepL.rep h k)
theorem bg.keep (s : bg H H') (rho : List Addr) : Keep K rho H rho H' := ⟨⟨[], by simp⟩, fun a xs h => by
 rcases h with h | h
 · rcases h with h | ⟨o, h⟩
   · exact .inl (.inl (s _ _ h))
   · exact .inl (.inr ⟨o, s _ _ h⟩)
 · exact .inr h, fun a o ws h => s _ _ h⟩
theorem ff (h : H p = none) (o : HO) : bg H (upd H p o) := fun b u q => by rw [Be (Hr q h)]; exact q
variable (K) (cls : CW)
def Ib (a : Addr) (c : Value) : Heap → Prop := fun h => ∃ o vs, h.get? a = some o ∧ o.cls = c ∧ o.data = .fields vs
def Ff (rho : List Addr) (H : Hp) (fs : List (Str × D)) (ws : List (Str × V)) : Prop := ∀ f, match fs.lookup f, ws.lookup f with
 | some d, some v => Rep K rho H d v
 | none, none => True
 | _, _ => False
def kD : D → Option Key
 | .int i => some (.inl i)
 | .str x => some (.inr x)
 | _ => none
def az (rho : List Addr) (H : Hp) : List (D × D) → List (Key × V) → Prop
 | [], ws => ws = []
 | (k, d) :: r, ws => ∃ k' v t, ws = (k', v) :: t ∧ kD k = some k' ∧ Rep K rho H d v ∧ az rho H r t
def Ph (w : World) : Nat → D → Int
 | _, .int i => hashInt i
 | _, .str x => hashStr w x
 | n + 1, .tup ds => reduceHash (Builtin.Tuple.tupleHashOf (ds.map (Ph w n)))
 | _, _ => 0
def pj (w : World) (a : Addr) (xs : List (D × Addr × V)) : Heap → Prop := fun h => (a == sysModules) = false ∧ xs.length ≤ sizeLine ∧ (xs.map (·.1)).Nodup ∧ ∃ o es ep, h.get? a = some o ∧ o.ExactDict ∧ o.data = .dict es ep ∧
 Paired (fun (x : D × Addr × V) (e : DictEntry) => e.hash = Ph w 8 x.1 ∧ e.key = .ref x.2.1 ∧ RelV x.2.2 e.val) xs es.toList
def fg (rho : List Addr) (H : Hp) : List (D × D) → List (D × Addr × V) → Prop
 | [], ws => ws = []
 | (k, d) :: r, ws => ∃ b v t, ws = (k, b, v) :: t ∧ Xm k = true ∧ Rep K rho H k (.ref b) ∧ Rep K rho H d v ∧ fg rho H r t
def xn (H : Hp) (a : Addr) (xs : List V) : Prop := (∃ o, H a = some (.frz o (.lst xs))) ∨
    ∃ (o : Obj) (its : Array Value) (n : Nat), K.lookup a = some o ∧ o.cls = .type "list" ∧ o.dict = none ∧ o.data = .seq its n ∧ its.size ≤ sizeLine ∧ Vals xs its.toList
def trk : Cell → Bool
 | .frz _ => false
 | .fnc _ => false
 | _ => true
def Fg (rho : List Addr) (H : Hp) (a : Addr) : Cell → Prop
 | .lst ds => ∃ vs, H a = some (.lst vs) ∧ RepL K rho H ds vs
 | .frz ds => ∃ vs, xn K H a vs ∧ RepL K rho H ds vs
 | .dct kvs => ∃ ws, H a = some (.dK ws) ∧ az K rho H kvs ws
 | .dcn kvs => ∃ xs, H a = some (.ext (pj cls.w a xs)) ∧ fg K rho H kvs xs
 | .dcf kvs => ∃ ws o, H a = some (.frz o (.dK ws)) ∧ az K rho H kvs ws
 | .dcg kvs => ∃ xs o, H a = some (.frz o (.ext (pj cls.w a xs))) ∧ fg K rho H kvs xs
 | .fnc i => a = cls.fn i
 | .ins c fs => ∃ dx ws, H a = some (.ins (cls c) dx ws) ∧ ws.length = fs.length ∧ Ff K rho H fs ws
 | .exn c => H a = some (.ext (Ib a (.ref (cls c))))
structure StoRep (rho : List Addr) (st : Sto) (H : Hp) : Prop where
 len : rho.length = st.length
 nd : ∀ (n m : Nat) (a : Addr) (c d : Cell), rho[n]? = some a → rho[m]? = some a → st[n]? = some c → st[m]? = some d → trk c = true → trk d = true → n = m
 cells : ∀ (n : Nat) (a : Addr) (c : Cell), rho[n]? = some a → st[n]? = some c → Fg K cls rho H a c
structure EnvRep (rho : List Addr) (H : Hp) (env : Env) (sg : St) : Prop where
 len : env.length = sg.length
 val : ∀ (i : Nat) (d : D), env[i]? = some (some d) → ∃ v, sg[i]? = some (some v) ∧ Rep K rho H d v
variable {K cls}
theorem Ff.mono {r1 r2 : List Addr} {H1 H2 : Hp} (k : Keep K r1 H1 r2 H2) {fs : List (Str × D)} {ws : List (Str × V)} (h : Ff K r1 H1 fs ws) : Ff K r2 H2 fs ws := fun f => by
 have q := h f
 revert q
 cases fs.lookup f <;> cases ws.lookup f <;> intro q <;> first | trivial | exact q.elim | exact Rep.mono k q
theorem az.mono {r1 r2 : List Addr} {H1 H2 : Hp} (k : Keep K r1 H1 r2 H2) : ∀ {kvs : List (D × D)} {ws : List (Key × V)}, az K r1 H1 kvs ws → az K r2 H2 kvs ws
 | [], ws, h => by simpa [az] using h
 | (x, d) :: r, ws, h => by
  simp only [az] at h ⊢
  obtain ⟨k', v, t, e, p, q, w⟩ := h
  exact ⟨k', v, t, e, p, Rep.mono k q, az.mono k w⟩
theorem fg.mono {r1 r2 : List Addr} {H1 H2 : Hp} (k : Keep K r1 H1 r2 H2) : ∀ {kvs : List (D × D)} {ws : List (D × Addr × V)}, fg K r1 H1 kvs ws → fg K r2 H2 kvs ws
 | [], ws, h => by simpa [fg] using h
 | (x, d) :: r, ws, h => by
  simp only [fg] at h ⊢
  obtain ⟨b, v, t, e, p, q, u, w⟩ := h
  exact ⟨b, v, t, e, p, Rep.mono k q, Rep.mono k u, fg.mono k w⟩
theorem Fg.stay (k : Keep K r1 H1 r2 H2) (h : Fg K cls r1 H1 a c) (e : ∀ o, H1 a = some o → H2 a = some o) : Fg K cls r2 H2 a c := by
 cases c with
 | lst ds => obtain ⟨vs, p, q⟩ := h; exact ⟨vs, e _ p, q.mono k⟩
 | frz ds =>
  obtain ⟨vs, p, q⟩ := h
  refine ⟨vs, ?_, q.mono k⟩
  rcases p with ⟨o, p⟩ | p
  · exact .inl ⟨o, e _ p⟩
  · exact .inr p
 | dct kvs => obtain ⟨ws, p, q⟩ := h; exact ⟨ws, e _ p, q.mono k⟩
 | dcn kvs => obtain ⟨ws, p, q⟩ := h; exact ⟨ws, e _ p, q.mono k⟩
 | dcf kvs => obtain ⟨ws, o, p, q⟩ := h; exact ⟨ws, o, e _ p, q.mono k⟩
 | dcg kvs => obtain ⟨ws, o, p, q⟩ := h; exact ⟨ws, o, e _ p, q.mono k⟩
 | fnc i => exact h
 | ins c fs => obtain ⟨dx, ws, p, l, q⟩ := h; exact ⟨dx, ws, e _ p, l, q.mono k⟩
 | exn c => exact e _ h
theorem Fg.some (h : Fg K cls r H a c) (t : trk c = true) : ∃ o, H a = some o := by
 cases c with
 | lst ds => obtain ⟨vs, p, q⟩ := h; exact ⟨_, p⟩
 | frz ds => cases t
 | dct kvs => obtain ⟨ws, p, q⟩ := h; exact ⟨_, p⟩
 | dcn kvs => obtain ⟨ws, p, q⟩ := h; exact ⟨_, p⟩
 | dcf kvs => obtain ⟨ws, o, p, q⟩ := h; exact ⟨_, p⟩
 | dcg kvs => obtain ⟨ws, o, p, q⟩ := h; exact ⟨_, p⟩
 | fnc i => cases t
 | ins c fs => obtain ⟨dx, ws, p, q⟩ := h; exact ⟨_, p⟩
 | exn c => exact ⟨_, h⟩
theorem StoRep.same (s : StoRep K cls rho st H) (e : bg H H') : StoRep K cls rho st H' :=
 ⟨s.len, s.nd, fun n a c p q => (s.cells n a c p q).stay (bg.keep e rho) (fun o h => e _ _ h)⟩
theorem EnvRep.mono {r1 r2 : List Addr} {H1 H2 : Hp} (k : Keep K r1 H1 r2 H2) {env : Env} {sg : St} (h : EnvRep K r1 H1 env sg) : EnvRep K r2 H2 env sg :=
 ⟨h.len, fun i d e => let ⟨v, p, q⟩ := h.val i d e; ⟨v, p, q.mono k⟩⟩
theorem EnvRep.set (h : EnvRep K rho H env sg) (i : Nat) (r : Rep K rho H d v) : EnvRep K rho H (env.set i (some d)) (sg.set i (some v)) := by
 refine ⟨by simp [h.len], fun j x e => ?_⟩
 rw [List.getElem?_set] at e ⊢
 have hl := h.len
 by_cases ij : i = j
 · subst ij
   rw [if_pos rfl] at e ⊢
   by_cases hi : i < env.length
   · rw [if_pos hi] at e
     rw [if_pos (by omega)]
     cases e
     exact ⟨v, rfl, r⟩
   · rw [if_neg hi] at e; cases e
 · rw [if_neg ij] at e ⊢
   exact h.val j x e
theorem StoRep.laid (s : StoRep K cls rho st H) (hp : H p = none) (hc : Fg K cls (rho ++ [p]) (upd H p o) p c) :
    Keep K rho H (rho ++ [p]) (upd H p o) ∧ StoRep K cls (rho ++ [p]) (st ++ [c]) (upd H p o) := by
  have e := ff hp o
  have k : Keep K rho H (rho ++ [p]) (upd H p o) := ⟨⟨[p], rfl⟩, (bg.keep e rho).tup, (bg.keep (K := K) e rho).fz⟩
  have old : ∀ (n : Nat) (x : Cell), rho[n]? = some p → st[n]? = some x → trk x = true → False := fun n x h1 h2 ht => by
    obtain ⟨u, hu⟩ := (s.cells n p x h1 h2).some ht
    rw [hp] at hu; cases hu
  have at_lt : ∀ (n : Nat) (a : Addr) (x : Cell), (rho ++ [p])[n]? = some a → (st ++ [c])[n]? = some x → (n < rho.length ∧ rho[n]? = some a ∧ st[n]? = some x) ∨ (n = rho.length ∧ a = p ∧ x = c) := fun n a x h1 h2 => by
    by_cases hn : n < rho.length
    · rw [List.getElem?_append_left hn] at h1
      rw [List.getElem?_append_left (by rw [← s.len]; exact hn)] at h2
      exact .inl ⟨hn, h1, h2⟩
    · have hn' : n = rho.length := by
        have := (List.getElem?_eq_some_iff.mp h1).1
        simp at this; omega
      subst hn'
      rw [List.getElem?_append_right (Nat.le_refl _)] at h1
      rw [s.len, List.getElem?_append_right (Nat.le_refl _)] at h2
      simp at h1 h2
      exact .inr ⟨rfl, h1.symm, h2.symm⟩
  refine ⟨k, by simp [s.len], fun n m a x y h1 h2 h3 h4 t1 t2 => ?_, fun n a x h1 h2 => ?_⟩
  · rcases at_lt n a x h1 h3 with ⟨_, g1, g2⟩ | ⟨e1, e2, e3⟩
    · rcases at_lt m a y h2 h4 with ⟨_, g3, g4⟩ | ⟨f1, f2, f3⟩
      · exact s.nd n m a x y g1 g3 g2 g4 t1 t2
      · subst f2; exact (old n x g1 g2 t1).elim
    · rcases at_lt m a y h2 h4 with ⟨_, g3, g4⟩ | ⟨f1, f2, f3⟩
      · subst e2; exact (old m y g3 g4 t2).elim
      · omega
  · rcases at_lt n a x h1 h2 with ⟨_, g1, g2⟩ | ⟨e1, e2, e3⟩
    · exact (s.cells n a x g1 g2).stay k fun u hu => e _ _ hu
    · subst e2 e3; exact hc
theorem StoRep.alias (s : StoRep K cls rho st H) (ht : trk c = false) (hc : Fg K cls (rho ++ [p]) H p c) :
    Keep K rho H (rho ++ [p]) H ∧ StoRep K cls (rho ++ [p]) (st ++ [c]) H := by
  have k : Keep K rho H (rho ++ [p]) H := ⟨⟨[p], rfl⟩, fun _ _ h => h, fun _ _ _ h => h⟩
  have at_lt : ∀ (n : Nat) (a : Addr) (x : Cell), (rho ++ [p])[n]? = some a → (st ++ [c])[n]? = some x → (rho[n]? = some a ∧ st[n]? = some x) ∨ (a = p ∧ x = c) := fun n a x h1 h2 => by
    by_cases hn : n < rho.length
    · rw [List.getElem?_append_left hn] at h1
      rw [List.getElem?_append_left (by rw [← s.len]; exact hn)] at h2
      exact .inl ⟨h1, h2⟩
    · have hn' : n = rho.length := by
        have := (List.getElem?_eq_some_iff.mp h1).1
        simp at this; omega
      subst hn'
      rw [List.getElem?_append_right (Nat.le_refl _)] at h1
      rw [s.len, List.getElem?_append_right (Nat.le_refl _)] at h2
      simp at h1 h2
      exact .inr ⟨h1.symm, h2.symm⟩
  refine ⟨k, by simp [s.len], fun n m a x y h1 h2 h3 h4 t1 t2 => ?_, fun n a x h1 h2 => ?_⟩
  · rcases at_lt n a x h1 h3 with ⟨g1, g2⟩ | ⟨_, e3⟩
    · rcases at_lt m a y h2 h4 with ⟨g3, g4⟩ | ⟨_, f3⟩
      · exact s.nd n m a x y g1 g3 g2 g4 t1 t2
      · subst f3; rw [ht] at t2; cases t2
    · subst e3; rw [ht] at t1; cases t1
  · rcases at_lt n a x h1 h2 with ⟨g1, g2⟩ | ⟨e2, e3⟩
    · exact (s.cells n a x g1 g2).stay k fun _ hu => hu
    · subst e2 e3; exact hc
theorem StoRep.wroteC (s : StoRep K cls rho st H) (ha : rho[n]? = some a) (hl0 : st[n]? = some c0) (ht0 : trk c0 = true) (hH : H a = some o0) (hno : (∀ xs, o0 ≠ .tup xs) ∧ ∀ u x, o0 ≠ .frz u x) (hc : ∀ H2, H2 a = some o → Keep K rho H rho H2 → Fg K cls rho H2 a c1) :
    Keep K rho H rho (upd H a o) ∧ StoRep K cls rho (st.set n c1) (upd H a o) := by
  have k : Keep K rho H rho (upd H a o) := ⟨⟨[], by simp⟩, fun b xs h => by
    rcases h with h | h
    · rcases h with h | ⟨o, h⟩
      · exact .inl (.inl (by rw [Be (jo h hH (fun z => hno.1 _ z.symm))]; exact h))
      · exact .inl (.inr ⟨o, by rw [Be (jo h hH (fun z => hno.2 _ _ z.symm))]; exact h⟩)
    · exact .inr h, fun b u ws h => by rw [Be (jo h hH (fun z => hno.2 _ _ z.symm))]; exact h⟩
  refine ⟨k, by simp [s.len], fun m1 m2 b c d h1 h2 h3 h4 t1 t2 => ?_, fun m b c h1 h2 => ?_⟩
  · have tr : ∀ (m : Nat) (c : Cell), (st.set n c1)[m]? = some c → trk c = true → rho[m]? = some b → ∃ c', st[m]? = some c' ∧ trk c' = true := fun m c h t hr => by
      rw [List.getElem?_set] at h
      by_cases e : n = m
      · subst e
        rw [ha] at hr; cases hr
        exact ⟨_, hl0, ht0⟩
      · rw [if_neg e] at h; exact ⟨c, h, t⟩
    obtain ⟨c1, e1, f1⟩ := tr m1 c h3 t1 h1
    obtain ⟨c2, e2, f2⟩ := tr m2 d h4 t2 h2
    exact s.nd m1 m2 b c1 c2 h1 h2 e1 e2 f1 f2
  rw [List.getElem?_set] at h2
  by_cases e : n = m
  · subst e
    rw [if_pos rfl] at h2
    rw [ha] at h1; cases h1
    by_cases hl : n < st.length
    · rw [if_pos hl] at h2; cases h2
      exact hc _ cj k
    · rw [if_neg hl] at h2; cases h2
  · rw [if_neg e] at h2
    cases ht : trk c with
    | true =>
      have hne : b ≠ a := fun z => by
        subst z
        exact e (s.nd n m b _ c ha h1 hl0 h2 ht0 ht)
      exact (s.cells m b c h1 h2).stay k fun o ho => by rw [Be hne]; exact ho
    | false =>
      cases c with
      | frz xs =>
        obtain ⟨us, p, q⟩ := s.cells m b (.frz xs) h1 h2
        refine ⟨us, ?_, q.mono k⟩
        rcases p with ⟨o, p⟩ | p
        · exact .inl ⟨o, by rw [Be (jo p hH (fun z => hno.2 _ _ z.symm))]; exact p⟩
        · exact .inr p
      | fnc i => exact s.cells m b (.fnc i) h1 h2
      | _ => cases ht
theorem StoRep.wrote (s : StoRep K cls rho st H) (ha : rho[n]? = some a) (hl0 : st[n]? = some (.lst ds0)) (hH : H a = some (.lst vs)) (hd : RepL K rho H ds ws) :
    Keep K rho H rho (upd H a (.lst ws)) ∧ StoRep K cls rho (st.set n (.lst ds)) (upd H a (.lst ws)) :=
  s.wroteC ha hl0 rfl hH ⟨fun _ => nofun, fun _ _ => nofun⟩ fun H2 e k => ⟨ws, e, hd.mono k⟩
end
end DD
namespace DD
open PySem PySem.Spec L2
structure G where
 K : PySem.W.Frag
 cls : CW
 tab : Nat → Ty → Option Bool
 call : Or
 xk : XK
variable (g : G)
abbrev G.Rep := DD.Rep g.K
abbrev G.RepL := DD.RepL g.K
abbrev G.Keep := DD.Keep g.K
abbrev G.Sto := DD.StoRep g.K g.cls
abbrev G.Env := DD.EnvRep g.K
def RQ {α : Type} (r : Res α) (ok : α → Sto → Prop) (rho : List Addr) (H : Hp) : Prop := match r with
 | .ok a st => ok a st
 | .exc c st => ∀ H' rho', g.Keep rho H rho' H' → g.Sto rho' st H' → g.xk (.ref (g.cls c)) none H'
 | .bad => False
def ar (rho : List Addr) (H : Hp) (Q : VK) (d : D) (st : Sto) : Prop := ∀ v H' rho', g.Keep rho H rho' H' → g.Sto rho' st H' → g.Rep rho' H' d v → Q v H'
def Pj (rho : List Addr) (H : Hp) (Q : List V → Hp → Prop) (d : List D) (st : Sto) : Prop := ∀ v H' rho', g.Keep rho H rho' H' → g.Sto rho' st H' → g.RepL rho' H' d v → Q v H'
def da (rho : List Addr) (H : Hp) (Q : Bool → Hp → Prop) (b : Bool) (st : Sto) : Prop := ∀ H' rho', g.Keep rho H rho' H' → g.Sto rho' st H' → Q b H'
def tE (e : E) : TE := fun sg H Q => ∃ rho st env, g.Sto rho st H ∧ g.Env rho H env sg ∧ RQ g (Ad g.tab g.call e env st) (ar g rho H Q) rho H
def tEs (e : Es) : TA := fun sg H Q => ∃ rho st env, g.Sto rho st H ∧ g.Env rho H env sg ∧ RQ g (Au g.tab g.call e env st) (Pj g rho H Q) rho H
def tT (e : E) : TT := fun sg H Q => ∃ rho st env, g.Sto rho st H ∧ g.Env rho H env sg ∧ RQ g (aq g.tab g.call e env st) (da g rho H Q) rho H
variable {g}
theorem RQ.bad {α : Type} {ok : α → Sto → Prop} {rho : List Addr} {H : Hp} (h : RQ g (.bad : Res α) ok rho H) : False := h
theorem RQ.mono {α : Type} {r : Res α} {ok ok' : α → Sto → Prop} {rho rho' : List Addr} {H H' : Hp} (k : g.Keep rho H rho' H') (h : RQ g r ok rho H) (ho : ∀ a st, ok a st → ok' a st) : RQ g r ok' rho' H' := by
 cases r with
 | ok a st => exact ho _ _ h
 | exc c st => exact fun H2 r2 k2 s2 => h H2 r2 (k.trans k2) s2
 | bad => exact h
theorem ar.mono {rho rho' : List Addr} {H H' : Hp} {Q : VK} (k : g.Keep rho H rho' H') {d : D} {st : Sto} (h : ar g rho H Q d st) : ar g rho' H' Q d st := fun v H2 r2 k2 => h v H2 r2 (k.trans k2)
theorem da.mono {rho rho' : List Addr} {H H' : Hp} {Q : Bool → Hp → Prop} (k : g.Keep rho H rho' H') {d : Bool} {st : Sto} (h : da g rho H Q d st) : da g rho' H' Q d st := fun H2 r2 k2 => h H2 r2 (k.trans k2)
theorem step {β : Type} {e : E} {env : Env} {sg : St} {st : Sto} {rho : List Addr} {H : Hp} {k : D → Sto → Res β} {ok : β → Sto → Prop} {Q : VK} (s : g.Sto rho st H) (n : g.Env rho H env sg)
    (h : RQ g ((Ad g.tab g.call e env st).bind k) ok rho H)
    (hk : ∀ d st1 v H1 rho1, g.Keep rho H rho1 H1 → g.Sto rho1 st1 H1 → g.Env rho1 H1 env sg → g.Rep rho1 H1 d v → RQ g (k d st1) ok rho1 H1 → Q v H1) : tE g e sg H Q := by
  refine ⟨rho, st, env, s, n, ?_⟩
  revert h
  cases Ad g.tab g.call e env st with
  | ok d st1 => exact fun h v H1 r1 k1 s1 rp => hk d st1 v H1 r1 k1 s1 (n.mono k1) rp (RQ.mono k1 h fun _ _ x => x)
  | exc c st1 => exact fun h => h
  | bad => exact fun h => h
theorem eh {β : Type} {e : Es} {env : Env} {sg : St} {st : Sto} {rho : List Addr} {H : Hp} {k : List D → Sto → Res β} {ok : β → Sto → Prop} {Q : List V → Hp → Prop} (s : g.Sto rho st H) (n : g.Env rho H env sg)
    (h : RQ g ((Au g.tab g.call e env st).bind k) ok rho H)
    (hk : ∀ d st1 v H1 rho1, g.Keep rho H rho1 H1 → g.Sto rho1 st1 H1 → g.Env rho1 H1 env sg → g.RepL rho1 H1 d v → RQ g (k d st1) ok rho1 H1 → Q v H1) : tEs g e sg H Q := by
  refine ⟨rho, st, env, s, n, ?_⟩
  revert h
  cases Au g.tab g.call e env st with
  | ok d st1 => exact fun h v H1 r1 k1 s1 rp => hk d st1 v H1 r1 k1 s1 (n.mono k1) rp (RQ.mono k1 h fun _ _ x => x)
  | exc c st1 => exact fun h => h
  | bad => exact fun h => h
theorem stepT {β : Type} {e : E} {env : Env} {sg : St} {st : Sto} {rho : List Addr} {H : Hp} {k : Bool → Sto → Res β} {ok : β → Sto → Prop} {Q : Bool → Hp → Prop} (s : g.Sto rho st H) (n : g.Env rho H env sg)
    (h : RQ g ((aq g.tab g.call e env st).bind k) ok rho H)
    (hk : ∀ d st1 H1 rho1, g.Keep rho H rho1 H1 → g.Sto rho1 st1 H1 → g.Env rho1 H1 env sg → RQ g (k d st1) ok rho1 H1 → Q d H1) : tT g e sg H Q := by
  refine ⟨rho, st, env, s, n, ?_⟩
  revert h
  cases aq g.tab g.call e env st with
  | ok d st1 => exact fun h H1 r1 k1 s1 => hk d st1 H1 r1 k1 s1 (n.mono k1) (RQ.mono k1 h fun _ _ x => x)
  | exc c st1 => exact fun h => h
  | bad => exact fun h => h
variable {X : Cx} {a b c : Expr} {a' b' c' : E} {pos : Pos}
def Sd (g : G) (X : Cx) (e : Expr) (e' : E) : Prop := PE X e (tE g e')
def SdT (g : G) (X : Cx) (e : Expr) (e' : E) : Prop := PT X e (tT g e')
def SdL (g : G) (X : Cx) (es : List Expr) (es' : Es) : Prop := PA X es (tEs g es')
theorem bb {t t' : TE} {e : Expr} (h : PE X e t) (hi : ∀ sg H Q, t' sg H Q → t sg H Q) : PE X e t' := fun pins s sg H Q I q => h pins s sg H Q I (hi _ _ _ q)
theorem Eh (h : PT X e t) (hi : ∀ sg H Q, t' sg H Q → t sg H Q) : PT X e t' := fun pins s sg H Q I q => h pins s sg H Q I (hi _ _ _ q)
theorem Pk (h : PA X e t) (hi : ∀ sg H Q, t' sg H Q → t sg H Q) : PA X e t' := fun pos pins s sg H Q I q => h pos pins s sg H Q I (hi _ _ _ q)
theorem Cu (i : Nat) (h : PE X (.Name x pos) (Lj i)) : Sd g X (.Name x pos) (.var i) := bb h fun sg H Q q => by
 obtain ⟨rho, st, env, s, n, q⟩ := q
 simp only [Ad] at q
 cases e : cz env i with
 | none => rw [e] at q; exact q.elim
 | some d =>
  rw [e] at q
  have e' : env[i]? = some (some d) := by
   unfold cz at e
   cases z : env[i]? with
   | none => rw [z] at e; cases e
   | some o => rw [z] at e; cases o with
    | none => cases e
    | some y => cases e; rfl
  obtain ⟨v, e1, r⟩ := n.val i d e'
  exact ⟨v, e1, q v H rho (.refl _ _) s r⟩
theorem jx (h : PE X e (tC v)) (hr : ∀ rho H, g.Rep rho H d v) : Sd g X e (.cst d) := bb h fun sg H Q q => by
 obtain ⟨rho, st, env, s, n, q⟩ := q
 exact q v H rho (.refl _ _) s (hr _ _)
theorem Ae {i j pos} : Sd g X (.Constant (.int i) j pos) (.cst (.int i)) := jx uh fun _ _ => by simp [Rep]
theorem Dg {i j pos} : Sd g X (.Constant (.bool i) j pos) (.cst (.bl i)) := jx Uh fun _ _ => by simp [Rep]
theorem fh {j pos} : Sd g X (.Constant .none j pos) (.cst .non) := jx ui fun _ _ => by simp [Rep]
theorem ag {x j pos} : Sd g X (.Constant (.str x) j pos) (.cst (.str x)) := jx Ny fun _ _ => by simp [Rep]
theorem Ab : SdL g X [] .nil := Pk Hy fun sg H Q q => by
 obtain ⟨rho, st, env, s, n, q⟩ := q
 exact q [] H rho (.refl _ _) s (by simp [RepL])
theorem aa {e : Expr} {es : List Expr} {e' : E} {es' : Es} (h : Sd g X e e') (t : SdL g X es es') (hs : starEach (e :: es) X.env = (false, eval e X.env) :: starEach es X.env := by rfl) : SdL g X (e :: es) (.cons e' es') :=
 Pk (Ee h t hs) fun sg H Q q => by
  obtain ⟨rho, st, env, s, n, q⟩ := q
  simp only [Au] at q
  refine step s n q fun d st1 v H1 r1 k1 s1 n1 rp q1 => ?_
  refine eh s1 n1 q1 fun ds st2 vs H2 r2 k2 s2 n2 rps q2 => ?_
  have q2 : Pj g rho H Q (d :: ds) st2 := q2
  exact q2 (v :: vs) H2 r2 (k1.trans k2) s2 (by simp only [RepL]; exact ⟨v, vs, rfl, rp.mono k2, rps⟩)
theorem Ag {es : List Expr} {es' : Es} {x1} (h : SdL g X es es') : Sd g X (.Tuple es x1 pos) (.tupE es') := bb (wb h) fun sg H Q q => by
 obtain ⟨rho, st, env, s, n, q⟩ := q
 simp only [Ad] at q
 refine eh s n q fun ds st1 vs H1 r1 k1 s1 n1 rps q1 => ?_
 have hl := rps.length
 by_cases z : ds.length ≤ sizeLine
 · rw [if_pos z] at q1
   refine ⟨by omega, fun p hp => ?_⟩
   have q1 : ar g rho H Q (.tup ds) st1 := q1
   have e := ff hp (.tup vs)
   refine q1 (.ref p) _ r1 (k1.trans (bg.keep e r1)) (s1.same e) ?_
   simp only [Rep]
   exact ⟨p, vs, rfl, SqT.of cj, rps.mono (bg.keep e r1)⟩
 · rw [if_neg z] at q1; exact q1.elim
theorem bf {es : List Expr} {es' : Es} (h : SdL g X es es') : Sd g X (.List es pos) (.lstE es') := bb (Wb h) fun sg H Q q => by
 obtain ⟨rho, st, env, s, n, q⟩ := q
 simp only [Ad] at q
 refine eh s n q fun ds st1 vs H1 r1 k1 s1 n1 rps q1 => ?_
 have hl := rps.length
 by_cases z : ds.length ≤ sizeLine
 · rw [if_pos z] at q1
   refine ⟨by omega, fun p hp => ?_⟩
   have q1 : ar g rho H Q (.loc st1.length) (st1 ++ [.lst ds]) := q1
   have e := ff hp (.lst vs)
   have kk : g.Keep r1 H1 (r1 ++ [p]) (upd H1 p (.lst vs)) := ⟨⟨[p], rfl⟩, (bg.keep e r1).tup, (bg.keep (K := g.K) e r1).fz⟩
   obtain ⟨k2, s2⟩ := s1.laid hp (o := .lst vs) (c := .lst ds) ⟨vs, cj, rps.mono kk⟩
   refine q1 (.ref p) _ _ (k1.trans k2) s2 ?_
   simp only [Rep]
   exact ⟨p, by rw [← s1.len]; simp, rfl⟩
 · rw [if_neg z] at q1; exact q1.elim
theorem two {o : V → V → Hp → VK → Prop} {k : D → D → Sto → Res D} (hop : ∀ x y u v st rho H Q, g.Sto rho st H → g.Rep rho H x u → g.Rep rho H y v → RQ g (k x y st) (ar g rho H Q) rho H → o u v H Q)
    {sg : St} {H : Hp} {Q : VK} {rho : List Addr} {st : Sto} {env : Env} (s : g.Sto rho st H) (n : g.Env rho H env sg)
    (q : RQ g ((Ad g.tab g.call a' env st).bind fun x st => (Ad g.tab g.call b' env st).bind fun y st => k x y st) (ar g rho H Q) rho H) : tOp o (tE g a') (tE g b') sg H Q := by
  refine step s n q fun x st1 u H1 r1 k1 s1 n1 rp q1 => ?_
  refine step s1 n1 q1 fun y st2 v H2 r2 k2 s2 n2 rp2 q2 => ?_
  exact hop x y u v st2 r2 H2 Q s2 (rp.mono k2) rp2 (RQ.mono (.refl _ _) q2 fun d st p => p.mono (k1.trans k2))
variable {g : G} {X : Cx} {a b c : Expr} {a' b' c' : E} {pos : Pos}
theorem Pl (h : i.natAbs < BIG) : Builtin.Int.intBits i ≤ 4000 := by
 unfold Builtin.Int.intBits
 split
 · omega
 · rename_i h0
   have hz : i.natAbs ≠ 0 := by
    intro z; apply h0; simp [Int.natAbs_eq_zero.mp z]
   have : i.natAbs.log2 < 4000 := (Nat.log2_lt hz).mpr h
   omega
theorem fw.ok {i j : Int} (h : fw i j) : IntMulOk i j := by
 rcases h with h | h | h
 · exact .of_left (intBits_le_64 h.1 h.2)
 · exact .of_right (intBits_le_64 h.1 h.2)
 · exact IntMulOk.of_bits (Nat.le_trans (Pl h.1) (by decide)) (Nat.le_trans (Pl h.2) (by decide))
theorem Fw.py (h : Fw j) : Builtin.divisionGoesByPylong i j = false := by
 refine PyProof.noPylong_of_log2 ?_
 have hz : j.natAbs ≠ 0 := fun z => h.1 (Int.natAbs_eq_zero.mp z)
 have : j.natAbs.log2 < 4000 := (Nat.log2_lt hz).mpr h.2
 omega
theorem Xn : OpR X (binaryOp .Mult) (rI (fun i j => fw i j) fun i j => .int (i * j)) := opI fun _ _ _ _ _ _ _ hc q => PyProof.Rows.mul_int q hc.ok
theorem xo : OpR X (binaryOp .FloorDiv) (rI (fun _ j => Fw j) fun i j => .int (i.fdiv j)) := opI fun _ _ _ _ _ _ _ hc q => PyProof.Rows.floordiv_int hc.1 q (.inl hc.py)
theorem aw {rho : List Addr} {H : Hp} {i : Int} {v : V} : g.Rep rho H (.int i) v ↔ v = .int i := by simp [Rep]
theorem bh : g.Rep rho H (.bl i) v ↔ v = .bl i := by simp [Rep]
theorem dh : g.Rep rho H .non v ↔ v = .non := by simp [Rep]
theorem bu : g.Rep rho H (.str x) v ↔ v = .str x := by simp [Rep]
theorem Bl : g.Rep rho H (.loc n) v ↔ ∃ a, rho[n]? = some a ∧ v = .ref a := by simp [Rep]
theorem bz : g.Rep rho H (.tup ds) v ↔ ∃ a vs, v = .ref a ∧ SqT g.K H a vs ∧ g.RepL rho H ds vs := by simp [Rep]
theorem Gs {rho : List Addr} {st : Sto} {H : Hp} (s : g.Sto rho st H) {n : Nat} {ds : List D} (h : st[n]? = some (.lst ds)) : ∃ a vs, rho[n]? = some a ∧ H a = some (.lst vs) ∧ g.RepL rho H ds vs := by
 have hl : n < rho.length := by rw [s.len]; exact (List.getElem?_eq_some_iff.mp h).1
 obtain ⟨vs, p, q⟩ := s.cells n rho[n] (.lst ds) (List.getElem?_eq_getElem hl) h
 exact ⟨_, vs, List.getElem?_eq_getElem hl, p, q⟩
theorem Ei {rho : List Addr} {st : Sto} {H : Hp} (s : g.Sto rho st H) {n : Nat} {ds : List D} (h : Az st n = some ds) : ∃ a vs, rho[n]? = some a ∧ SqL g.K H a vs ∧ g.RepL rho H ds vs := by
 unfold Az at h
 split at h
 · rename_i xs e
   cases h
   obtain ⟨a, vs, p, q, r⟩ := Gs s e
   exact ⟨a, vs, p, SqL.of q, r⟩
 · rename_i xs e
   cases h
   have hl : n < rho.length := by rw [s.len]; exact (List.getElem?_eq_some_iff.mp e).1
   obtain ⟨vs, p, q⟩ := s.cells n rho[n] (.frz ds) (List.getElem?_eq_getElem hl) e
   exact ⟨_, vs, List.getElem?_eq_getElem hl, p.elim (fun ⟨o, p⟩ => .inl (.inr ⟨o, p⟩)) .inr, q⟩
 · cases h
theorem Jx (s : g.Sto rho st H) (r : g.RepL rho H ds vs) (hp : H p = none) (q : ar g rho H Q (.loc st.length) (st ++ [.lst ds])) : Q (.ref p) (upd H p (.lst vs)) := by
 have e := ff hp (.lst vs)
 have kk : g.Keep rho H (rho ++ [p]) (upd H p (.lst vs)) := ⟨⟨[p], rfl⟩, (bg.keep e rho).tup, (bg.keep (K := g.K) e rho).fz⟩
 obtain ⟨k2, s2⟩ := s.laid hp (o := .lst vs) (c := .lst ds) ⟨vs, cj, r.mono kk⟩
 refine q (.ref p) _ _ k2 s2 (Bl.mpr ⟨p, by rw [← s.len]; simp, rfl⟩)
theorem Bf (ha : Sd g X a a') (hb : Sd g X b b') : Sd g X (.BinOp a .Add b pos) (.op .add a' b') := bb (Hw (OpR.or vh (OpR.or wz vp)) ha hb) fun sg H Q q => by
 obtain ⟨rho, st, env, s, n, q⟩ := q
 simp only [Ad] at q
 refine two (k := opD .add) ?_ s n q
 intro x y u v st rho H Q s rx ry q
 cases x with
 | int i =>
  cases y with
  | int j => exact .inl ⟨i, j, aw.mp rx, aw.mp ry, q _ H rho (.refl _ _) s (aw.mpr rfl)⟩
  | _ => exact q.elim
 | loc i =>
  cases y with
  | loc j =>
   simp only [opD] at q
   split at q
   · rename_i xs ys e1 e2
     split at q
     · rename_i z
       obtain ⟨p1, v1, a1, h1, r1⟩ := Gs s e1
       obtain ⟨p2, v2, a2, h2, r2⟩ := Gs s e2
       obtain ⟨b1, c1, d1⟩ := Bl.mp rx
       obtain ⟨b2, c2, d2⟩ := Bl.mp ry
       rw [a1] at c1; cases c1
       rw [a2] at c2; cases c2
       exact .inr (.inl ⟨p1, p2, v1, v2, d1, d2, h1, h2, by rw [← r1.length, ← r2.length]; exact z, fun p hp => Jx s (r1.append r2) hp q⟩)
     · exact q.elim
   · exact q.elim
  | _ => exact q.elim
 | str i =>
  cases y with
  | str j =>
   simp only [opD] at q
   split at q
   · rename_i z
     exact .inr (.inr ⟨i, j, bu.mp rx, bu.mp ry, z, q _ H rho (.refl _ _) s (bu.mpr rfl)⟩)
   · exact q.elim
  | _ => exact q.elim
 | _ => exact q.elim
theorem Cb (ha : Sd g X a a') (hb : Sd g X b b') : Sd g X (.BinOp a .Sub b pos) (.op .sub a' b') := bb (Hw Vh ha hb) fun sg H Q q => by
 obtain ⟨rho, st, env, s, n, q⟩ := q
 simp only [Ad] at q
 refine two (k := opD .sub) ?_ s n q
 intro x y u v st rho H Q s rx ry q
 cases x with
 | int i =>
  cases y with
  | int j => exact ⟨i, j, aw.mp rx, aw.mp ry, q _ H rho (.refl _ _) s (aw.mpr rfl)⟩
  | _ => exact q.elim
 | _ => exact q.elim
theorem Fh (hK : X.K = g.K) (ha : Sd g X a a') (hb : Sd g X b b') : Sd g X (.BinOp a .Mult b pos) (.op .mul a' b') := bb (Hw (OpR.or Xn (OpR.or xa (OpR.or Xl xl))) ha hb) fun sg H Q q => by
 obtain ⟨rho, st, env, s, n, q⟩ := q
 simp only [Ad] at q
 refine two (k := opD .mul) ?_ s n q
 intro x y u v st rho H Q s rx ry q
 cases x with
 | int i =>
  cases y with
  | int j =>
   simp only [opD] at q
   split at q
   · rename_i z
     exact .inl ⟨i, j, aw.mp rx, aw.mp ry, z, q _ H rho (.refl _ _) s (aw.mpr rfl)⟩
   · exact q.elim
  | _ => exact q.elim
 | loc i =>
  cases y with
  | int k =>
   simp only [opD] at q
   split at q
   · rename_i xs e1
     split at q
     · rename_i z
       obtain ⟨p1, v1, a1, h1, r1⟩ := Gs s e1
       obtain ⟨b1, c1, d1⟩ := Bl.mp rx
       rw [a1] at c1; cases c1
       exact .inr (.inl ⟨p1, k, v1, d1, aw.mp ry, h1, z.1, z.2.1, by rw [← r1.length]; exact z.2.2, fun p hp => Jx s (r1.rep _) hp q⟩)
     · exact q.elim
   · exact q.elim
  | _ => exact q.elim
 | str i =>
  cases y with
  | int k =>
   simp only [opD] at q
   split at q
   · rename_i z
     exact .inr (.inr (.inl ⟨i, k, bu.mp rx, aw.mp ry, z.1, z.2.1, z.2.2.1, z.2.2.2, q _ H rho (.refl _ _) s (bu.mpr rfl)⟩))
   · exact q.elim
  | _ => exact q.elim
 | tup ds =>
  cases y with
  | int k =>
   simp only [opD] at q
   split at q
   · rename_i z
     obtain ⟨a1, vs, d1, h1, r1⟩ := bz.mp rx
     have hl := r1.length
     refine .inr (.inr (.inr ⟨a1, k, vs, d1, aw.mp ry, by rw [hK]; exact h1, z.1, z.2.1, by rw [← hl]; exact z.2.2, fun e => ?_, fun p hp => ?_⟩))
     · refine q _ H rho (.refl _ _) s ?_
       have := r1.rep k.toNat
       rw [e] at this
       exact bz.mpr ⟨a1, vs, rfl, h1, this⟩
     · have e := ff hp (.tup (List.replicate k.toNat vs).flatten)
       refine q (.ref p) _ rho (bg.keep e rho) (s.same e) ?_
       exact bz.mpr ⟨p, _, rfl, SqT.of cj, (r1.rep k.toNat).mono (bg.keep e rho)⟩
   · exact q.elim
  | _ => exact q.elim
 | _ => exact q.elim
theorem Cj (ha : Sd g X a a') (hb : Sd g X b b') : Sd g X (.BinOp a .FloorDiv b pos) (.op .fdiv a' b') := bb (Hw xo ha hb) fun sg H Q q => by
 obtain ⟨rho, st, env, s, n, q⟩ := q
 simp only [Ad] at q
 refine two (k := opD .fdiv) ?_ s n q
 intro x y u v st rho H Q s rx ry q
 cases x with
 | int i =>
  cases y with
  | int j =>
   simp only [opD] at q
   split at q
   · rename_i z
     exact ⟨i, j, aw.mp rx, aw.mp ry, z, q _ H rho (.refl _ _) s (aw.mpr rfl)⟩
   · exact q.elim
  | _ => exact q.elim
 | _ => exact q.elim
theorem Bh (ha : Sd g X a a') (hb : Sd g X b b') : Sd g X (.BinOp a .Mod b pos) (.op .mod a' b') := bb (Hw vi ha hb) fun sg H Q q => by
 obtain ⟨rho, st, env, s, n, q⟩ := q
 simp only [Ad] at q
 refine two (k := opD .mod) ?_ s n q
 intro x y u v st rho H Q s rx ry q
 cases x with
 | int i =>
  cases y with
  | int j =>
   simp only [opD] at q
   split at q
   · rename_i z
     exact ⟨i, j, aw.mp rx, aw.mp ry, z, q _ H rho (.refl _ _) s (aw.mpr rfl)⟩
   · exact q.elim
  | _ => exact q.elim
 | _ => exact q.elim
theorem ly (ha : Sd g X a a') (hb : Sd g X b b') : Sd g X (.BinOp a .Pow b pos) (.op .pow a' b') := bb (Hw Vi ha hb) fun sg H Q q => by
 obtain ⟨rho, st, env, s, n, q⟩ := q
 simp only [Ad] at q
 refine two (k := opD .pow) ?_ s n q
 intro x y u v st rho H Q s rx ry q
 cases x with
 | int i =>
  cases y with
  | int j =>
   simp only [opD] at q
   split at q
   · rename_i z
     exact ⟨i, j, aw.mp rx, aw.mp ry, z, q _ H rho (.refl _ _) s (aw.mpr rfl)⟩
   · exact q.elim
  | _ => exact q.elim
 | _ => exact q.elim
end DD
namespace DD
open PySem PySem.Spec L2
open PyProof.Rows hiding St
structure Flew (P : Program) (w : World) (outer : List PySem.Env) (H : Hp) (s : Shared) (C a t : Addr) (H' : Hp) (B : Heap) (s' : Shared) : Prop where
 os : s'.os = s.os
 bare : AllBare s'.gens
 fly : Heap.FlyingW B outer a (.ref C) (.ref t) s'.heap
 keep : ∀ b o, s.heap.get? b = some o → H b = none → b ∉ frs outer → B.get? b = some o
 there : ∀ b o, s.heap.get? b = some o → b ∉ frs outer → ∃ o', B.get? b = some o'
 free : ∀ b o, s.heap.get? b = some o → H b = none → H' b = none
 slot : ∀ b o, s.heap.get? b = some o → H b = none → b ∈ frs outer → ∃ sl, s'.heap.get? b = some { o with slots := sl }
 tups : ∀ b xs, H b = some (.tup xs) → H' b = some (.tup xs)
 frzs : ∀ b o u, H b = some (.frz o u) → H' b = some (.frz o u)
 tbls : ∀ b ps, H b = some (.tbl ps) → ∃ more, H' b = some (.tbl (ps ++ more))
 hok : HOk P w H' B
def CXd (P : Program) (w : World) : CXT := fun outer H s E e s' => ∃ (C a t : Addr) (H' : Hp) (B : Heap), e = .ref a ∧ Flew P w outer H s C a t H' B s' ∧ E (.ref C) none H'
theorem jy (h : env.frame = some L) (outer : List PySem.Env) : frs (env :: outer) = L :: frs outer := by
 unfold frs; rw [List.filterMap_cons, h]
section
variable {P : Program} {w : World} {K : PySem.W.Frag} {mg : Str → Option Value} {base : Heap} {N : List Str} {qual : Str} {scope : Scope} {f : Addr} {cd : Value} {A : Around} {outer : List PySem.Env} {s : Shared} {H : Hp} {E : XK}
theorem Ak : Passes (CXd P w) (dw (CXd P w) P w K mg base N qual scope f cd A outer s H E) E := by
 intro pins sg H1 s1 e s2 I h
 obtain ⟨C, a, t, H', B, rfl, F, q⟩ := h
 have hf : (envOfC qual scope s.heap.objs.size f cd).frame = some s.heap.objs.size := rfl
 have hstk : (dw (CXd P w) P w K mg base N qual scope f cd A outer s H E).stack = envOfC qual scope s.heap.objs.size f cd :: outer := rfl
 have hfr := jy hf outer
 rw [hstk] at F
 have hb : ∀ b o, s.heap.get? b = some o → b ∉ frs outer → b ∉ frs (envOfC qual scope s.heap.objs.size f cd :: outer) := fun b o e hn => by
  rw [hfr]
  intro m
  rcases List.mem_cons.mp m with z | z
  · have := Heap.lt_size e; rw [z] at this; exact Nat.lt_irrefl _ this
  · exact hn z
 have up : ∀ b o, s.heap.get? b = some o → ∃ o', s1.heap.get? b = some o' := fun b o e => I.base.there b o e (by intro z; cases z)
 show wpAny (model P w) (A.deeper (envOfC qual scope s.heap.objs.size f cd)) (leaving (envOfC qual scope s.heap.objs.size f cd) (.ref a)) (fun _ s'' => CXd P w outer H s E (.ref a) s'') (fun e' s'' => CXd P w outer H s E e' s'') s2
 refine wpAny_leaves_onW (I.ok.frames) hf F.fly fun h' fl us => ?_
 refine ⟨C, a, t, H', B, rfl, ⟨F.os.trans I.os, F.bare, fl, fun b o e n hn => ?_, fun b o e hn => ?_, fun b o e n => ?_, fun b o e n hm => ?_, fun b xs e => F.tups _ _ (I.base.tups _ _ e), fun b o u e => F.frzs _ _ _ (I.base.frzs _ _ _ e), fun b ps e => ?_, F.hok⟩, q⟩
 · exact F.keep b o (I.base.keep b o e n hn (by intro z; cases z)) (I.base.free b o e n (by intro z; cases z)) (hb b o e hn)
 · obtain ⟨o', e'⟩ := up b o e
   exact F.there b o' e' (hb b o e hn)
 · obtain ⟨o', e'⟩ := up b o e
   exact F.free b o' e' (I.base.free b o e n (by intro z; cases z))
 · obtain ⟨sl, e1⟩ := I.base.slot b o e n hm (by intro z; cases z)
   have n1 := I.base.free b o e n (by intro z; cases z)
   obtain ⟨sl2, e2⟩ := F.slot b _ e1 n1 (by rw [hfr]; exact List.mem_cons_of_mem _ hm)
   have nf : ∀ vs, o.data ≠ .fields vs := by
    obtain ⟨_, o2, ho2, hd2⟩ := I.ok.funs.mem hm
    have : s.heap.get? b = some o2 := ho2
    rw [e] at this; cases this; exact hd2
   obtain ⟨sl3, e3⟩ := us b _ e2 nf
   exact ⟨sl3, e3⟩
 · obtain ⟨m1, e1⟩ := I.base.tbls b ps e
   obtain ⟨m2, e2⟩ := F.tbls b _ e1
   exact ⟨m1 ++ m2, by rw [e2, Array.append_assoc]⟩
def Throws (X : Cx) (E : XK) : Prop := ∀ (pins : List (Addr × Obj)) (sg : L2.St) (H : Hp) (s1 s2 : Shared) (a C : Addr) (vs : List Value), L2.Inv X pins sg H s1 → s2.os = s1.os → AllBare s2.gens → Heap.MadeExcOf s1.heap s2.heap a (.ref C) vs → E (.ref C) none H → X.xe (.ref a) s2
theorem Pm {l : List Addr} {b h : Heap} : ∀ {env : List PySem.Env}, h.FunFrames b env → (∀ x ∈ frs env, x ∈ l) → h.FunFrames (PySem.W.hideAll h l) env
 | [], _, _ => trivial
 | e :: r, ⟨hk, ⟨L, o, hf, hn, ho, hd⟩, hr⟩, hm => by
  have e1 := jy hf r
  refine ⟨hk, ⟨L, o, hf, PySem.W.hideAll_none _ (hm L (by rw [e1]; exact List.mem_cons_self)), ho, hd⟩, Pm hr fun x hx => hm x (by rw [e1]; exact List.mem_cons_of_mem _ hx)⟩
theorem Dh : Throws (dw (CXd P w) P w K mg base N qual scope f cd A outer s H E) E := by
 intro pins sg H1 s1 s2 a C vs I hos hbare hx q
 have hf : (envOfC qual scope s.heap.objs.size f cd).frame = some s.heap.objs.size := rfl
 have hfr := jy hf outer
 have hstk : (dw (CXd P w) P w K mg base N qual scope f cd A outer s H E).stack = envOfC qual scope s.heap.objs.size f cd :: outer := rfl
 have hb : ∀ b o, s.heap.get? b = some o → b ∉ frs outer → b ∉ frs (envOfC qual scope s.heap.objs.size f cd :: outer) := fun b o e hn => by
  rw [hfr]
  intro m
  rcases List.mem_cons.mp m with z | z
  · have := Heap.lt_size e; rw [z] at this; exact Nat.lt_irrefl _ this
  · exact hn z
 have hst : s1.heap.FunFrames base (envOfC qual scope s.heap.objs.size f cd :: outer) := I.stack
 have hfree : ∀ b ∈ frs (envOfC qual scope s.heap.objs.size f cd :: outer), H1 b = none := I.stkFree
 show wpAny (model P w) (A.deeper (envOfC qual scope s.heap.objs.size f cd)) (leaving (envOfC qual scope s.heap.objs.size f cd) (.ref a)) (fun _ s'' => CXd P w outer H s E (.ref a) s'') (fun e' s'' => CXd P w outer H s E e' s'') s2
 refine wpAny_leaves_madeW (base := PySem.W.hideAll s1.heap (frs (envOfC qual scope s.heap.objs.size f cd :: outer))) (h := s1.heap) I.ok.frames hf (fun b o e => PySem.W.of_hideAll _ e) (Pm hst fun x h => h) hx fun h' t fl _ _ us => ?_
 refine ⟨C, a, t, H1, _, rfl, ⟨hos.trans I.os, hbare, fl, fun b o e n hn => ?_, fun b o e hn => ?_, fun b o e n => I.base.free b o e n (by intro z; cases z), fun b o e n hm => ?_, I.base.tups, I.base.frzs, I.base.tbls, fun b o e => ?_⟩, q⟩
 · exact PySem.W.hideAll_get _ (I.base.keep b o e n hn (by intro z; cases z)) (hb b o e hn)
 · obtain ⟨o', e'⟩ := I.base.there b o e (by intro z; cases z)
   exact ⟨o', PySem.W.hideAll_get _ e' (hb b o e hn)⟩
 · obtain ⟨sl, e1⟩ := I.base.slot b o e n hm (by intro z; cases z)
   have nf : ∀ vs, o.data ≠ .fields vs := by
    obtain ⟨_, o2, ho2, hd2⟩ := I.ok.funs.mem hm
    have : s.heap.get? b = some o2 := ho2
    rw [e] at this; cases this; exact hd2
   obtain ⟨sl3, e3⟩ := us b _ (hx.keeps _ _ e1) nf
   exact ⟨sl3, e3⟩
 ·
  have nfr : ∀ c, (c = b ∨ H1 c = some (.own b)) → c ∉ frs (envOfC qual scope s.heap.objs.size f cd :: outer) := fun c hc hm => by
   have := hfree c hm
   rcases hc with rfl | hc
   · rw [this] at e; cases e
   · rw [this] at hc; cases hc
  exact (I.hok b o e).stay (fun c u hc g => PySem.W.hideAll_get _ g (nfr c hc)) (fun _ h => h) fun _ _ h => h
theorem Xo (X : K.In h) (q : PySem.W.excIn K C bmB newId = true) :
    ∃ bm N nm q bs hdct sn sub ab col dd k0 k1 k2 k3 k5 mN, h.get? C = some (excClassObj nm q C N bs bm hdct sn sub ab col dd k0 k1 k2 k3 k5 newId) ∧ h.Ns N mN ∧ mN "__init__" = none ∧ OwnTail h bmB bm := by
  unfold PySem.W.excIn at q
  split at q
  · rename_i dd cd sl ho
    split at q
    · rename_i C' bm k0 k1 k2 k3 n k5 hm hs
      simp only [Bool.and_eq_true, beq_iff_eq, Bool.not_eq_true'] at q
      obtain ⟨⟨⟨⟨⟨rfl, rfl⟩, hdel⟩, ht⟩, hok⟩, hni⟩ := q
      obtain ⟨nm, bs, mro, ns, qn, hd, sn, sub, ab, col, del⟩ := cd
      dsimp only at hm hdel hok hni
      subst hm hdel
      have hsl : sl = #[k0, k1, k2, k3, some (.builtin n), k5] := by
        obtain ⟨l⟩ := sl
        simp only at hs
        rw [hs]
      subst hsl
      exact ⟨bm, ns, nm, qn, bs, hd, sn, sub, ab, col, dd, k0, k1, k2, k3, k5, _, X _ _ ho, .of_isNs (PySem.W.isNs_of_in X hok), PySem.W.nsMap_none_of_in X hok hni, PySem.W.tail_of_in X ht⟩
    · cases q
  · cases q
def Xp (E : XK) (C : Addr) : TS := fun _ _ H => E (.ref C) none H
theorem xq {x txt : Str} {j : Nat} {np ap cpos pos : Pos} {bmB : List Value} (hth : Throws X E) (hh : X.A.handled = none) (hg : Gl X x) (hn : PySem.W.nsIn X.K mainGlobals x = some (some (.ref C))) (hm : X.mg x = some (.ref C))
    (hq : PySem.W.excIn X.K C [.type "ValueError", .type "Exception", .type "BaseException", .type "object"] "ValueError.__new__" = true) (hd : (x == ("__debug__" : Str)) = false := by decide) :
    PS X (.Raise (some (.Call (.Name x np) [.Constant (.str txt) j ap] [] cpos)) none pos) (Xp E C) := by
  intro pins s sg H D I h
  have KX := I.kIn
  have FB := PySem.F.excBase_ValueError
  have obj := Xo I.mod.kin hq
  obtain ⟨tl, N, nm, q, bs, hdct, sn, sub, ab, col, dd, k0, k1, k2, k3, k5, mN, hC, hN, hni, T⟩ := obj
  refine wpAny_Raise_call_subU (C := C) (nm := nm) (q := q) (N := N) (bs := bs) (bm := tl) (hdct := hdct) (sn := sn) (sub := sub) (ab := ab) (col := col) (dd := dd) (k0 := k0) (k1 := k1) (k2 := k2) (k3 := k3) (k5 := k5)
    FB (by decide) FB (mN := mN) (T.hasType FB.hasBase) hh rfl hni (Ht I hg hm ⟨rfl, ?_⟩ hd)
  have ha : PA X [.Constant (.str txt) j ap] (Js (tC (.str txt)) js) := Ee Ny Hy
  have := ha cpos pins s sg H (fun vs H1 => vs = [.str txt] ∧ H1 = H) I ⟨rfl, rfl⟩
  refine Calls.evalArgs_plain (thn this fun us s2 h2 => ?_)
  obtain ⟨vs, H2, I2, rv, e1, e2⟩ := h2
  subst e1 e2
  have hl : us.length = 1 := by rw [← rv.length]; rfl
  exact ⟨rfl, by rw [show ({ pos := us, kw := [] } : Args).pos.length = us.length from rfl, hl]; decide, I2.bk _ _ hC, hN.keeps I2.bk, T.keeps I2.bk, fun h' e hm => hth pins sg _ s2 { s2 with heap := h' } e C us I2 rfl I2.bare hm h⟩
end
abbrev Cx.hd (X : Cx) (a : Addr) : Cx := { X with A := X.A.mark (some (.ref a)), calm := false, xe := fun _ _ => False }
def Jy (X : Cx) : L2.St := List.replicate X.N.length none
theorem Xq {X : Cx} {i : Nat} {v : V} (h : (Jy X)[i]? = some (some v)) : False := by
 unfold Jy at h
 rw [List.getElem?_replicate] at h
 split at h <;> cases h
theorem xr (ok : X.Ok) (a : Addr) : (Cx.hd X a).Ok :=
 ⟨ok.mod, ok.kind, ok.glob, ok.blt, ok.above, ok.inj, ok.has, ok.cab, fun z => absurd z (by simp), ok.frames, ok.stk, ok.exf, ok.bs, ok.bsz, ok.noex, ok.exfs, ok.funs, ok.frf⟩
theorem Pn (x : Bk P w H h a o) : ∃ u, h.get? a = some u := by
 cases o with
 | lst xs => obtain ⟨_, _, _, _, e⟩ := x; exact ⟨_, e⟩
 | tup xs => obtain ⟨_, _, _, o, e, _⟩ := x; exact ⟨_, e⟩
 | dK kvs => obtain ⟨_, _, _, _, o, _, _, e, _⟩ := x; exact ⟨_, e⟩
 | dT kvs => obtain ⟨_, _, _, _, o, _, _, e, _⟩ := x; exact ⟨_, e⟩
 | set S n => obtain ⟨o, _, _, _, e, _⟩ := x; exact ⟨_, e⟩
 | ins C dx fs => obtain ⟨_, _, _, e, _⟩ := x; exact ⟨_, e⟩
 | own y => exact x
 | xd fs => obtain ⟨_, ⟨_, _, _, e, _⟩, _⟩ := x; exact ⟨_, e⟩
 | rng lo hi => obtain ⟨_, _, _, e⟩ := x; exact ⟨_, e⟩
 | frz ob u => obtain ⟨e, _⟩ := x; exact ⟨_, e⟩
 | tbl ps => exact ⟨_, show h.get? a = some _ from x⟩
 | met f y => exact ⟨_, show h.get? a = some _ from x⟩
 | ext φ => obtain ⟨_, e, _⟩ := x; exact e
theorem landed {X : Cx} {pins : List (Addr × Obj)} {sg : L2.St} {H H' : Hp} {s1 s2 : Shared} {C a t : Addr} {B h : Heap} (hfn : ∀ x, X.fn x = true) (hstk : X.stack = X.env :: X.outer) (hfr : X.env.frame = some X.env.locals) (hex : X.ex = [])
    (I : L2.Inv X pins sg H s1) (F : Flew X.prog X.w X.stack H s1 C a t H' B s2) (hB : Heap.FlyingW B X.stack a (.ref C) (.ref t) h) (us : s2.heap.UpToSlots h) :
    L2.Inv (Cx.hd X a) pins (Jy X) (upd H' a (.ext (Ib a (.ref C)))) { s2 with heap := h } := by
  have hfrs : frs X.stack = X.env.locals :: X.fs := by rw [hstk]; exact jy hfr X.outer
  have st : ∀ b o, B.get? b = some o → h.get? b = some o := hB.1
  have aB : B.get? a = none := hB.2.1
  obtain ⟨oe, ws, hoe, hoec, hoed, hoe0⟩ := hB.first
  have hnotA : ∀ b o, B.get? b = some o → b ≠ a := fun b o e z => by rw [z, aB] at e; cases e
  have nex : ∀ b : Addr, b ∉ X.ex := fun b z => by rw [hex] at z; cases z
  have old : ∀ b o, X.s₀.heap.get? b = some o → b ∉ X.fs → b ∉ frs X.stack := fun b o e hn hm => by
    rw [hfrs] at hm
    rcases List.mem_cons.mp hm with z | z
    · have := Heap.lt_size e
      rw [z] at this
      exact Nat.lt_irrefl _ (Nat.lt_of_lt_of_le this I.ok.above)
    · exact hn z
  obtain ⟨m, hm, _⟩ := I.loc
  obtain ⟨oL, esL, epL, hoL, hdL, hrL⟩ := hm
  have memL : X.env.locals ∈ frs X.stack := by rw [hfrs]; exact List.mem_cons_self
  obtain ⟨slL, e2L⟩ := F.slot _ _ hoL I.free memL
  obtain ⟨sl3, e3L⟩ := us _ _ e2L (fun vs q => by simp only [hdL] at q; cases q)
  have neL : X.env.locals ≠ a := fun z => by
    rw [z, hoe] at e3L
    cases e3L
    have hz : oL.data = .fields ws := hoed
    rw [hdL] at hz
    cases hz
  have frameNe : ∀ b o, s1.heap.get? b = some o → H b = none → b ∈ frs X.stack → (∀ vs, o.data ≠ .fields vs) → ∃ sl, h.get? b = some { o with slots := sl } := fun b o e n hm nf => by
    obtain ⟨sl, e1⟩ := F.slot b o e n hm
    obtain ⟨sl', e2⟩ := us b _ e1 nf
    exact ⟨sl', e2⟩
  have hcell : ∀ x c, X.env.cells.lookup x = some c → ∃ v, B.IsCell c v := fun x c e => by
    obtain ⟨v, o, ho, hd⟩ := I.cell x c e
    have hnot : c ∉ frs X.stack := fun hm => by
      rw [hfrs] at hm
      rcases List.mem_cons.mp hm with z | z
      · exact I.cne x c e z
      · have h1 := I.ok.cab x c (hfn x) e
        obtain ⟨_, o2, ho2, _⟩ := I.ok.funs.mem z
        exact absurd (Nat.lt_of_lt_of_le (Heap.lt_size ho2) h1) (Nat.lt_irrefl _)
    exact ⟨v, o, F.keep c o ho (I.freeC x c e) hnot, hd⟩
  refine ⟨xr I.ok a, F.os.trans I.os, F.bare, ⟨fun b o e n hn hx => ?_, fun b o e n hm hx => ?_, fun b o e n hx => ?_, fun b o e hx => ?_, fun b xs e => ?_, fun b o u e => ?_, fun b ps e => ?_⟩, ⟨m, ⟨_, esL, epL, e3L, hdL, hrL⟩, fun i x v _ e2 _ => (Xq e2).elim⟩, fun x c e => ?_, ?_, fun x c e => ?_, fun p hp => ?_, fun b o e => ?_, by unfold Jy; rw [List.length_replicate]⟩
  · exact st _ _ (F.keep b o (I.base.keep b o e n hn (nex b)) (I.base.free b o e n (nex b)) (old b o e hn))
  · obtain ⟨sl, e1⟩ := I.base.slot b o e n hm (nex b)
    have nf : ∀ vs, o.data ≠ .fields vs := by
      obtain ⟨_, o2, ho2, hd2⟩ := I.ok.funs.mem hm
      rw [e] at ho2; cases ho2; exact hd2
    obtain ⟨sl', e4⟩ := frameNe b _ e1 (I.base.free b o e n (nex b)) (by rw [hfrs]; exact List.mem_cons_of_mem _ hm) nf
    exact ⟨sl', e4⟩
  · by_cases hm : b ∈ X.fs
    · obtain ⟨sl, e1⟩ := I.base.slot b o e n hm (nex b)
      have nf : ∀ vs, o.data ≠ .fields vs := by
        obtain ⟨_, o2, ho2, hd2⟩ := I.ok.funs.mem hm
        rw [e] at ho2; cases ho2; exact hd2
      obtain ⟨sl', e4⟩ := frameNe b _ e1 (I.base.free b o e n (nex b)) (by rw [hfrs]; exact List.mem_cons_of_mem _ hm) nf
      have nea : b ≠ a := fun z => by
        rw [z, hoe] at e4; cases e4
        exact nf _ hoed
      rw [Be nea]
      exact F.free b _ e1 (I.base.free b o e n (nex b))
    · have e1 := I.base.keep b o e n hm (nex b)
      have n1 := I.base.free b o e n (nex b)
      rw [Be (hnotA b o (F.keep b o e1 n1 (old b o e hm)))]
      exact F.free b o e1 n1
  · by_cases hm : b ∈ X.fs
    · obtain ⟨_, o2, ho2, hd2⟩ := I.ok.funs.mem hm
      have nH := I.ok.frf b hm
      obtain ⟨sl, e1⟩ := I.base.slot b o e nH hm (nex b)
      rw [e] at ho2; cases ho2
      obtain ⟨sl', e4⟩ := frameNe b _ e1 (I.base.free b o e nH (nex b)) (by rw [hfrs]; exact List.mem_cons_of_mem _ hm) hd2
      exact ⟨_, e4⟩
    · obtain ⟨o1, e1⟩ := I.base.there b o e (nex b)
      obtain ⟨o2, e2⟩ := F.there b o1 e1 (old b o e hm)
      exact ⟨o2, st _ _ e2⟩
  · have e1 := F.tups _ _ (I.base.tups _ _ e)
    obtain ⟨_, _, _, o, ho, _⟩ := F.hok b _ e1
    rw [Be (hnotA b o ho)]; exact e1
  · have e1 := F.frzs _ _ _ (I.base.frzs _ _ _ e)
    obtain ⟨ho, _⟩ := F.hok b _ e1
    rw [Be (hnotA b o ho)]; exact e1
  · obtain ⟨m1, e1⟩ := I.base.tbls b ps e
    obtain ⟨m2, e2⟩ := F.tbls b _ e1
    have ho : B.get? b = some _ := F.hok b _ e2
    exact ⟨m1 ++ m2, by rw [Be (hnotA b _ ho), e2, Array.append_assoc]⟩
  · obtain ⟨v, o, ho, hd⟩ := hcell x c e
    exact ⟨v, o, st _ _ ho, hd⟩
  · show upd H' a _ X.env.locals = none
    rw [Be neL]
    exact F.free _ _ hoL I.free
  · obtain ⟨v, o, ho, hd⟩ := hcell x c e
    rw [Be (hnotA c o ho)]
    obtain ⟨v1, o1, ho1, _⟩ := I.cell x c e
    exact F.free c o1 ho1 (I.freeC x c e)
  · obtain ⟨p1, p2, p3, p4, p5⟩ := I.pin p hp
    have hnot : p.1 ∉ frs X.stack := fun hm => by
      rw [hfrs] at hm
      rcases List.mem_cons.mp hm with z | z
      · exact p3 z
      · exact p4 z
    have e1 := F.keep p.1 p.2 p1 p2 hnot
    refine ⟨st _ _ e1, ?_, p3, p4, p5⟩
    rw [Be (hnotA _ _ e1)]
    exact F.free _ _ p1 p2
  · by_cases hb : b = a
    · subst hb
      rw [cj] at e; cases e
      refine ⟨⟨oe, ws, hoe, hoec, hoed⟩, ⟨oe, hoe⟩, fun h1 h2 ⟨o, vs, e1, e2, e3⟩ k => ⟨o, vs, k o e1, e2, e3⟩⟩
    · rw [Be hb] at e
      have hne : ∀ c y, H' c = some y → c ≠ a := fun c y ec z => by
        subst z
        obtain ⟨oc, hc⟩ := Pn (F.hok c y ec)
        rw [aB] at hc; cases hc
      exact (F.hok b o e).stay (fun c u _ g => st c u g) (fun c z => by rw [Be (hne c _ z)]; exact z) fun c xs z => by rw [Be (hne c _ z)]; exact z
theorem gone (ok : X.Ok) (hN : X.N.Nodup) (hi : X.N[i]? = some n) (hex : X.ex = []) (I : L2.Inv (Cx.hd X a) pins sg H s)
    (hm3 : ∀ (i : Nat) (x : Str) (v : V), X.N[i]? = some x → sg[i]? = some (some v) → Vis X.env.scope x → ∃ u, RelV v u ∧ Look X.env s.heap m3 x u) (sb : Heap.SameBut X.env.locals s.heap h') (hn : h'.Ns X.env.locals (fun x => if x = n then w else m3 x)) : L2.Inv X pins (sg.set i none) H { s with heap := h', toks := tk } := by
  have oth : ∀ b o, b ≠ X.env.locals → s.heap.get? b = some o → h'.get? b = some o := fun b o n e => (sb.2 b n).trans e
  have oldn : ∀ b o, X.s₀.heap.get? b = some o → b ≠ X.env.locals := fun b o e z => by
    have := Heap.lt_size e
    rw [z] at this
    exact Nat.lt_irrefl _ (Nat.lt_of_lt_of_le this ok.above)
  have fL : H X.env.locals = none := I.free
  refine ⟨ok, I.os, I.bare, ⟨fun b o e n hn hx => oth _ _ (oldn b o e) (I.base.keep b o e n hn hx), fun b o e n hm hx => ?_, I.base.free, fun b o e hx => ?_, I.base.tups, I.base.frzs, I.base.tbls⟩, ⟨_, hn, fun j x v e1 e2 e3 => ?_⟩,
    fun x c e => ?_, I.free, I.freeC, fun p hp => ?_, fun b o e => ?_, by rw [List.length_set]; exact I.len⟩
  · obtain ⟨sl, e1⟩ := I.base.slot b o e n hm hx
    exact ⟨sl, oth _ _ (oldn b o e) e1⟩
  · obtain ⟨o', e1⟩ := I.base.there b o e hx
    exact ⟨o', oth _ _ (oldn b o e) e1⟩
  · have hji : j ≠ i := fun z => by
      subst z
      rw [List.getElem?_set] at e2
      simp at e2
    rw [List.getElem?_set_ne (Ne.symm hji)] at e2
    obtain ⟨u, r, k⟩ := hm3 j x v e1 e2 e3
    refine ⟨u, r, ?_⟩
    have hxn : x ≠ n := fun z => by
      subst z
      have := (List.getElem?_inj (List.getElem?_eq_some_iff.mp e1).1 hN).mp (e1.trans hi.symm)
      exact hji this
    rcases k with ⟨k1, k2⟩ | ⟨k1, c, k2, k3⟩
    · exact .inl ⟨k1, by simp only [if_neg hxn]; exact k2⟩
    · exact .inr ⟨k1, c, k2, k3.sameBut sb (I.cne x c k2)⟩
  · obtain ⟨v, z⟩ := I.cell x c e
    exact ⟨v, z.sameBut sb (I.cne x c e)⟩
  · obtain ⟨p1, p2, p3, p4, p5⟩ := I.pin p hp
    exact ⟨oth _ _ p3 p1, p2, p3, p4, p5⟩
  · refine (I.hok b o e).stay (fun c u hc g => oth c u ?_ g) (fun _ h => h) fun _ _ h => h
    intro z
    rcases hc with rfl | hc
    · rw [z, fL] at e; cases e
    · rw [z, fL] at hc; cases hc
def Xs (K : PySem.W.Frag) (Cx' : Addr) (n i : Nat) (ts : TS) (D : Ends) (C : Addr) (H : Hp) : Prop := PySem.W.exmOne K (.ref C) (.ref Cx') = some true ∧
 ∀ a, H a = none → ts { nx := fun sg2 H2 => D.nx (sg2.set i none) H2, rt := D.rt } ((List.replicate n none).set i (some (.ref a))) (upd H a (.ext (Ib a (.ref C))))
abbrev Cx.tr (X : Cx) (pn : List (Addr × Obj)) (xe : Value → Shared → Prop) : Cx := { X with pn := pn, xe := xe }
theorem xt (I : L2.Inv X pins sg H s) : L2.Inv (Cx.tr X (X.pn ++ pins) xe) [] sg H s :=
 ⟨⟨I.ok.mod, I.ok.kind, I.ok.glob, I.ok.blt, I.ok.above, I.ok.inj, I.ok.has, I.ok.cab, I.ok.hd, I.ok.frames, I.ok.stk, I.ok.exf, I.ok.bs, I.ok.bsz, I.ok.noex, I.ok.exfs, I.ok.funs, I.ok.frf⟩, I.os, I.bare, I.base, I.loc, I.cell, I.free, I.freeC, fun p hp => I.pin p (by rw [List.append_nil] at hp; exact hp), I.hok, I.len⟩
theorem Ja (I : L2.Inv (Cx.tr X (X.pn ++ pins) xe) pins' sg H s) : L2.Inv X pins sg H s :=
 ⟨⟨I.ok.mod, I.ok.kind, I.ok.glob, I.ok.blt, I.ok.above, I.ok.inj, I.ok.has, I.ok.cab, I.ok.hd, I.ok.frames, I.ok.stk, I.ok.exf, I.ok.bs, I.ok.bsz, I.ok.noex, I.ok.exfs, I.ok.funs, I.ok.frf⟩, I.os, I.bare, I.base, I.loc, I.cell, I.free, I.freeC, fun p hp => I.pin p (List.mem_append_left _ hp), I.hok, I.len⟩
theorem Xt (e : h.get? a = some o) (hc : o.cls = c) : PySem.W.Looks M h (typeOf (.ref a)) c := by
 subst hc
 exact (PySem.W.Looks.ld e).andThen .now
theorem xu {X : Cx} {body suite : List Stmt} {b₀ : Stmt} {x n : Str} {np hp pos : Pos} {i : Nat} {Cx' : Addr} {tb : XK → TS} {ts : TS} (hfn : ∀ y, X.fn y = true) (hstk : X.stack = X.env :: X.outer) (hfr : X.env.frame = some X.env.locals) (hex : X.ex = [])
    (hN : X.N.Nodup) (hi : X.N[i]? = some n) (hl : X.env.scope.names.lookup n = some .local) (hg : Gl X x) (hm : X.mg x = some (.ref Cx'))
    (hb : ∀ (pn : List (Addr × Obj)) (E0 : XK) (xe0 : Value → Shared → Prop), PassesOwn (model X.prog X.w) X.A X.env xe0 → Passes (CXd X.prog X.w) (Cx.tr X pn xe0) E0 → PSs (Cx.tr X pn xe0) body (tb E0)) (hs : ∀ a, PSs (Cx.hd X a) (b₀ :: suite) ts) (hd : (x == ("__debug__" : Str)) = false := by decide) :
    PS X (.Try body [.ExceptHandler (some (.Name x np)) (some n) (b₀ :: suite) hp] [] [] pos) (fun D sg H => sg.length = X.N.length → ∃ E0 : XK, (∀ C H', E0 (.ref C) none H' → Xs X.K Cx' X.N.length i ts D C H') ∧ tb E0 D sg H) := by
  intro pins s sg H D I h
  obtain ⟨E0, hE, h⟩ := h I.len
  refine wpAny_Try_except ?_
  have hkl : X.env.kindOf n = some .local := hl
  have hpk : (X.env.scope.kind == .class || (X.env.scope.kind == .module && X.env.locals != X.env.globals)) = false := by rw [I.ok.kind]; rfl
  refine wpAny_mono (hb (X.pn ++ pins) E0 _ PassesOwn.looking (fun pins' sg1 H1 e1 e s2 I1 h1 => ?_) [] s sg H D (xt I) h) (fun f s1 q => ?_) (fun e s1 q => q)
  ·
    obtain ⟨C, a, t, H', B, rfl, F, q⟩ := h1
    have I1 : L2.Inv X pins sg1 H1 e1 := Ja I1
    obtain ⟨ht, hsu⟩ := hE C H' q
    refine wpAny_looks_onW (by rw [I.ok.frames, hstk]) hfr (by rw [← hstk]; exact F.fly) fun h4 held4 us4 => ?_
    refine wpAny_landsW held4 fun h5 fly5 us5 => ?_
    have J5 := landed hfn hstk hfr hex I1 F (by rw [hstk]; exact fly5) (us4.trans us5)
    obtain ⟨ob, hob, hobc⟩ := fly5.there
    have hHa : H' a = none := by
      cases z : H' a with
      | none => rfl
      | some y =>
        obtain ⟨oc, hc⟩ := Pn (F.hok a y z)
        have := fly5.2.1
        rw [hc] at this; cases this
    refine wpAny_handleBy_cons (codeAny_handlers_test (Ht (X := Cx.hd X a) J5 hg hm ?_ hd)) (by intro q; cases q)
    refine PySem.W.exm_one (h := h5) J5.kIn (Xt hob hobc) ht _ _ _ _ (fun _ _ e => e) ?_
    rw [if_pos rfl]
    refine codeAny_handlers_suite_as ?_
    refine lands_againW fly5 fun h6 fly6 us6 => ?_
    have J6 := landed hfn hstk hfr hex I1 F (by rw [hstk]; exact fly6) ((us4.trans us5).trans us6)
    refine Hs (X := Cx.hd X a) (v := .ref a) J6 hN hi (.inl hl) rfl (fun s7 J7 => ?_) (.inl (hfn n))
    refine wpAny_mono (hs a pins s7 _ _ _ J7 (hsu a hHa)) (fun f s3 q3 => ?_) (fun _ _ z => z.elim)
    cases f with
    | next =>
      obtain ⟨sg3, H3, I3, q3⟩ := q3
      obtain ⟨m3, hn3, hm3⟩ := I3.loc
      exact wpAny_nameGoes_keeps hkl hn3 hpk fun h' v hn' sb => ⟨_, H3, gone I.ok hN hi hex I3 hm3 sb hn', q3⟩
    | ret v =>
      obtain ⟨x3, sg3, H3, I3, r3, q3⟩ := q3
      obtain ⟨m3, hn3, hm3⟩ := I3.loc
      exact wpAny_nameGoes_keeps hkl hn3 hpk fun h' v hn' sb => ⟨x3, _, H3, gone I.ok hN hi hex I3 hm3 sb hn', r3, q3⟩
    | brk => obtain ⟨_, _, _, z⟩ := q3; exact z.elim
    | cont => obtain ⟨_, _, _, z⟩ := q3; exact z.elim
  · cases f with
    | next =>
      obtain ⟨sg1, H1, I1, q⟩ := q
      exact wpAny_execs_nil ⟨sg1, H1, Ja I1, q⟩
    | brk => obtain ⟨sg1, H1, I1, q⟩ := q; exact ⟨sg1, H1, Ja I1, q⟩
    | cont => obtain ⟨sg1, H1, I1, q⟩ := q; exact ⟨sg1, H1, Ja I1, q⟩
    | ret v => obtain ⟨x1, sg1, H1, I1, r, q⟩ := q; exact ⟨x1, sg1, H1, Ja I1, r, q⟩
end DD
namespace DD
open PySem PySem.Spec PySem.W PySem.Calls PyProof.Rows Builtin Builtin.ObjectAttr Builtin.Getset_descriptor
structure ExcC (K : Frag) (C : Addr) : Prop where
 cl : (clsIn K C).isSome = true
 ga : findIn K (.ref C) "__getattribute__" = some (some (.builtin "BaseException.__getattribute__"))
 gn : findIn K (.ref C) "__getattr__" = some none
 ha : findIn K (.ref C) "__class__" = some (some (.builtin "object.__class__"))
 hn : specialIn K (.builtin "object.__class__") "__get__" = some (some (.builtin "getset_descriptor.__get__"))
 tk : takesIn K (.builtin "object.__class__") = some true
 ob : mroIn K C (.type "object") = some true
 be : mroIn K C (.type "BaseException") = some true
section
variable {prog : Program} {w : World} {A : Around} {E : Value → Shared → Prop} {s : Shared} {K : Frag} {x C : Addr}
theorem Xu (X : K.In s.heap) (L0 : Looks (model prog w) s.heap (typeOf (.ref x)) (.ref C)) (hm : mroIn K C (.type "object") = some true)
    (h : R (.ok (.ret (.ref C))) s) : codeAny (model prog w) A (.call (.builtin "getset_descriptor.__get__") ⟨[.builtin "object.__class__", .ref x, tp], []⟩) R s := by
  obtain ⟨hh, g, dr, t, os⟩ := s
  have L1 := looks_mroIn (M := model prog w) X hm
  refine codeAny_call_builtin KF.slot_gs.plain KF.entry_gs (KF.slot_gs.check _ _ _ _ _ _ _ _ KF.type_class (KF.args_gs _ _ _) ?_)
  unfold Builtin.«getset_descriptor.__get__» descrGet
  rw [dga_obj]
  refine wpAny_bind (wpAny_pure ?_)
  unfold descrGetter descrCheckInstance descrNameAndClass isInstance
  simp only [KF.owner_class]
  repeat lk
  refine ⟨Code.quiet_builtin _ (by decide +kernel), codeAny_builtin KF.entry_class ?_⟩
  unfold Builtin.«object.__class__» shownTypeOf
  repeat lk
  exact h
theorem xv (X : K.In s.heap) (ec : ExcC K C) : Looks M s.heap (Builtin.ObjectAttr.find (.ref x) (.ref C) "__class__") (.bind (.builtin "getset_descriptor.__get__") (.builtin "object.__class__")) := by
 have L1 := looks_findIn (M := M) X ec.ha
 have L2 : Looks M s.heap (Builtin.ObjectAttr.getOf (some (.builtin "object.__class__"))) (some (.builtin "getset_descriptor.__get__")) := looks_specialIn X ec.hn
 have L3 := looks_takesIn (M := M) X ec.tk
 refine L1.andThen (L2.andThen ?_)
 exact (show Looks M s.heap (Builtin.ObjectAttr.dataDescriptor? (some (.builtin "object.__class__")) (some (.builtin "getset_descriptor.__get__"))) (some (.builtin "getset_descriptor.__get__", .builtin "object.__class__")) from L3.andThen .now).andThen (Looks.tag .now)
theorem Xv (X : K.In s.heap) (ec : ExcC K C) (L0 : Looks (model prog w) s.heap (typeOf (.ref x)) (.ref C)) (hq : Q (.done (.ret (.ref C))) s) :
    wpAny (model prog w) A (Builtin.«object.__getattribute__» ⟨[.ref x, .str "__class__" tk], []⟩) Q E s := by
  have LF := xv (x := x) X ec (M := model prog w)
  have hc := Xu (A := A) (tp := .ref C) (R := fun r s' => match r with | .ok (.ret v) => v = .ref C ∧ s' = s | _ => False) X L0 ec.ob ⟨rfl, rfl⟩
  obtain ⟨hh, g, dr, t, os⟩ := s
  unfold Builtin.«object.__getattribute__»
  repeat (first | (with_reducible refine wpAny_call (codeAny_mono hc fun r s' hr => ?_)) | lk)
  cases r with
  | error e => exact hr.elim
  | ok f =>
    cases f with
    | ret v => obtain ⟨rfl, rfl⟩ := hr; exact wpAny_pure hq
    | _ => exact hr.elim
theorem xw (X : K.In s.heap) (ec : ExcC K C) (L0 : Looks (model prog w) s.heap (typeOf (.ref x)) (.ref C)) (hq : Q () s) :
    wpAny (model prog w) A (checkBuiltinCall "BaseException.__getattribute__" ⟨[.ref x, .str "__class__" tk], []⟩) Q E s := by
  have hk : builtinKind "BaseException.__getattribute__" = some .slot := by decide +kernel
  have hsplit : splitId "BaseException.__getattribute__" = some ("BaseException", "__getattribute__") := by decide +kernel
  have ha := F.args_bexc_ga (.ref x) (.str "__class__" tk)
  have L1 := looks_mroIn (M := model prog w) X ec.be
  obtain ⟨hh, g, dr, t, os⟩ := s
  simp only [checkBuiltinCall, hk, hsplit]
  refine wpAny_bind ?_
  unfold isInstance
  repeat (first | lk | wp_step)
  exact hq
theorem Xw (X : K.In s.heap) (ec : ExcC K C) (L0 : Looks (model prog w) s.heap (typeOf (.ref x)) (.ref C)) (hq : R (.ok (.ret (.ref C))) s) :
    codeAny (model prog w) A (.call (.builtin "BaseException.__getattribute__") ⟨[.ref x, .str "__class__" tk], []⟩) R s :=
  codeAny_call_builtin (by decide +kernel) F.entry_bexc_ga (xw X ec L0 (Xv X ec L0 hq))
theorem xx (X : K.In s.heap) (ec : ExcC K C) (L0 : Looks (model prog w) s.heap (typeOf (.ref x)) (.ref C)) (hq : Q (some (.ref C)) { s with toks := s.toks + 1 }) :
    wpAny (model prog w) A (getAttr? (.ref x) "__class__") Q E s := by
  have hx2 : (Value.builtin "BaseException.__getattribute__" == Value.builtin "object.__getattribute__") = false := by decide +kernel
  have L1 := looks_findIn (M := model prog w) X ec.ga
  have L2 := looks_findIn (M := model prog w) X ec.gn
  have hc := Xw (s := { s with toks := s.toks + 1 }) (A := A) (tk := s.toks) (R := fun r s' => match r with | .ok (.ret v) => v = .ref C ∧ s' = { s with toks := s.toks + 1 } | _ => False) X ec L0 ⟨rfl, rfl⟩
  obtain ⟨hh, g, d, t, os⟩ := s
  unfold getAttr? getAttrBy? getAttrBy
  refine wpAny_bind (wpAny_mkText (wpAny_bind (wpAny_attempt (wpAny_holding (wpAny_bind (L0.at (wpAny_bind (L1.at ?_))))))))
  dsimp only
  rw [hx2, Bool.and_false, if_neg Bool.false_ne_true]
  have hb : bindSpecial (.builtin "BaseException.__getattribute__") (.ref x) = pure (.builtin "BaseException.__getattribute__", [.ref x]) := by
    have hop : withoutEnding? "BaseException.__getattribute__" "#opaque" = none := by decide +kernel
    have hdat : withoutEnding? "BaseException.__getattribute__" "#data" = none := by decide +kernel
    have hkd : builtinKind "BaseException.__getattribute__" = some .slot := by decide +kernel
    simp only [bindSpecial, typeOf, builtinType, hop, hdat, hkd]; rfl
  unfold getAttrByItsOwn hookBefore callGetattribute boundAndCalled
  rw [show onTheHeap (.ref C) = true from rfl, if_pos rfl]
  refine wpAny_bind (L2.at ?_)
  refine wpAny_bind (wpAny_attempt (wpAny_holding ?_))
  rw [if_neg (by simp)]
  refine wpAny_bind (wpAny_of_eq hb ?_)
  show wpAny (model prog w) A (call (.builtin "BaseException.__getattribute__") [.ref x, .str "__class__" t]) _ _ _
  refine wpAny_call (codeAny_mono hc fun r s' hr => ?_)
  cases r with
  | error e => exact hr.elim
  | ok f =>
    cases f with
    | ret v =>
      obtain ⟨rfl, rfl⟩ := hr
      exact wpAny_of_eq (handedOut_of rfl) (wpAny_pure hq)
    | _ => exact hr.elim
theorem Xx (ec : ExcC K C) : KitX K (.ref x) (.ref C) (fun h => ∃ o, h.get? x = some o ∧ o.cls = .ref C) where
 ty := fun M h _ ⟨o, e, hc⟩ => hc ▸ (Looks.ld e).andThen .now
 it := fun _ _ X _ => by
  obtain ⟨cd, hcd⟩ := Option.isSome_iff_exists.mp ec.cl
  unfold clsIn at hcd
  split at hcd
  · rename_i c' d' cd' sl' ho
    intro A' Q' E' s' k q
    unfold isType loadHead
    exact wpAny_bind (wpAny_loadPart (k _ _ (X _ _ ho)) (wpAny_pure q))
  · cases hcd
 ne := fun h tp dd its n sl X htp => by
  obtain ⟨cd, hcd⟩ := Option.isSome_iff_exists.mp ec.cl
  refine Bool.eq_false_iff.mpr fun q => ?_
  have e : C = tp := Value.ref.inj (beq_iff_eq.mp q)
  subst e
  unfold clsIn at hcd
  split at hcd
  · rename_i ho
    have := X _ _ ho
    rw [htp] at this
    cases this
  · cases hcd
 ca := fun X ⟨o, e, hc⟩ hq => xx X ec (hc ▸ (Looks.ld e).andThen .now) hq
end
end DD
namespace DD
open PySem PySem.Spec L2
variable {g : G} {X : Cx} {a b c : Expr} {a' b' c' : E} {pos : Pos}
theorem Ly {H : Hp} {s : Shared} {rho : List Addr} {f : D → Option PyData}
    (hf : ∀ (d : D) (v : V) (u : Value) (p : PyData), g.Rep rho H d v → RelV v u → f d = some p → ∃ as, Reads s.heap u p as) :
    ∀ {ds : List D} {vs : List V} {us : List Value} {ps : List PyData}, g.RepL rho H ds vs → Vals vs us → Ca (ds.map f) = some ps → ∃ as, ReadsAll s.heap us ps as
  | [], vs, us, ps, r, rv, e => by
    simp only [RepL] at r; subst r
    cases rv
    simp [Ca] at e; subst e
    exact ⟨[], .nil⟩
  | d :: t, vs, us, ps, r, rv, e => by
    simp only [RepL] at r
    obtain ⟨v, w, rfl, r1, r2⟩ := r
    cases rv with
    | cons q1 q2 =>
      simp only [List.map_cons] at e
      cases ed : f d with
      | none => rw [ed] at e; simp [Ca] at e
      | some p =>
        rw [ed] at e
        simp only [Ca] at e
        cases et : Ca (t.map f) with
        | none => rw [et] at e; cases e
        | some ps' =>
          rw [et] at e; cases e
          obtain ⟨as, h1⟩ := hf _ _ _ _ r1 q1 ed
          obtain ⟨bs, h2⟩ := Ly hf r2 q2 et
          exact ⟨as ++ bs, .cons h1 h2⟩
theorem reads (hK : X.K = g.K) (I : Inv X pins sg H s) (S : g.Sto rho st H) :
    ∀ (n : Nat) (d : D) (v : V) (u : Value) (p : PyData), g.Rep rho H d v → RelV v u → Aq st n d = some p → ∃ as, Reads s.heap u p as := by
  intro n
  induction n with
  | zero =>
    intro d v u p r rv e
    cases d with
    | non => cases dh.mp r; simp [Aq] at e; subst e; cases rv; exact ⟨_, .none⟩
    | bl b => cases bh.mp r; simp [Aq] at e; subst e; cases rv; exact ⟨_, .bool b⟩
    | int i => cases aw.mp r; simp [Aq] at e; subst e; obtain ⟨t, rfl⟩ := rv; exact ⟨_, .int i t⟩
    | str x => cases bu.mp r; simp [Aq] at e; obtain ⟨_, rfl⟩ := e; obtain ⟨t, rfl⟩ := rv; exact ⟨_, .str x t⟩
    | tup ds => simp [Aq] at e
    | loc m => simp [Aq] at e
  | succ n ih =>
    intro d v u p r rv e
    cases d with
    | non => cases dh.mp r; simp [Aq] at e; subst e; cases rv; exact ⟨_, .none⟩
    | bl b => cases bh.mp r; simp [Aq] at e; subst e; cases rv; exact ⟨_, .bool b⟩
    | int i => cases aw.mp r; simp [Aq] at e; subst e; obtain ⟨t, rfl⟩ := rv; exact ⟨_, .int i t⟩
    | str x => cases bu.mp r; simp [Aq] at e; obtain ⟨_, rfl⟩ := e; obtain ⟨t, rfl⟩ := rv; exact ⟨_, .str x t⟩
    | tup ds =>
      obtain ⟨a, vs, rfl, q, rl⟩ := bz.mp r
      simp only [Aq] at e
      cases eo : Ca (ds.map (Aq st n)) with
      | none => rw [eo] at e; cases e
      | some ps =>
        rw [eo] at e; cases e
        rw [← hK] at q
        obtain ⟨its, rvs, ⟨o, ho, hc, n', hd⟩, _⟩ := I.tuple q
        obtain ⟨as, h2⟩ := Ly ih rl rvs eo
        cases rv
        exact ⟨as, .tuple ho hc hd (by simpa using h2)⟩
    | loc m =>
      simp only [Aq] at e
      cases el : Az st m with
      | none => rw [el] at e; cases e
      | some ds =>
        rw [el] at e
        simp only [Option.bind_some] at e
        cases eo : Ca (ds.map (Aq st n)) with
        | none => rw [eo] at e; cases e
        | some ps =>
          rw [eo] at e; cases e
          obtain ⟨a, vs, hr, q, rl⟩ := Ei S el
          obtain ⟨a2, h1, h2⟩ := Bl.mp r
          rw [hr] at h1; cases h1
          subst h2
          rw [← hK] at q
          obtain ⟨its, rvs, ⟨o, n', ho, hc, _, hd⟩, _⟩ := I.list q
          obtain ⟨as, h3⟩ := Ly ih rl rvs eo
          cases rv
          exact ⟨a :: as, .list ho hc hd (by simpa using h3)⟩
theorem jz : ∀ (n : Nat) (d : D) (p : PyData), Aq st n d = some p → p.canLay0 = true ∧ p.depth ≤ n := by
 have all : ∀ (n : Nat), (∀ (d : D) (p : PyData), Aq st n d = some p → p.canLay0 = true ∧ p.depth ≤ n) → ∀ (ds : List D) (ps : List PyData), Ca (ds.map (Aq st n)) = some ps → PyData.canLayAll0 ps = true ∧ PyData.depthAll ps ≤ n := by
  intro n ih ds
  induction ds with
  | nil => intro ps e; simp [Ca] at e; subst e; exact ⟨rfl, Nat.zero_le _⟩
  | cons d t ih2 =>
   intro ps e
   simp only [List.map_cons] at e
   cases ed : Aq st n d with
   | none => rw [ed] at e; simp [Ca] at e
   | some p =>
    rw [ed] at e
    simp only [Ca] at e
    cases et : Ca (t.map (Aq st n)) with
    | none => rw [et] at e; cases e
    | some ps' =>
     rw [et] at e; cases e
     obtain ⟨h1, h2⟩ := ih _ _ ed
     obtain ⟨h3, h4⟩ := ih2 _ et
     exact ⟨by simp only [PyData.canLayAll0, h1, h3, Bool.and_self], by simp only [PyData.depthAll]; exact Nat.max_le.mpr ⟨h2, h4⟩⟩
 intro n
 induction n with
 | zero =>
  intro d p e
  cases d <;> simp [Aq] at e <;> first | (subst e; exact ⟨rfl, Nat.zero_le _⟩) | (obtain ⟨h, rfl⟩ := e; exact ⟨h, Nat.zero_le _⟩)
 | succ n ih =>
  intro d p e
  cases d with
  | non => simp [Aq] at e; subst e; exact ⟨rfl, Nat.zero_le _⟩
  | bl b => simp [Aq] at e; subst e; exact ⟨rfl, Nat.zero_le _⟩
  | int i => simp [Aq] at e; subst e; exact ⟨rfl, Nat.zero_le _⟩
  | str x => simp [Aq] at e; obtain ⟨h, rfl⟩ := e; exact ⟨h, Nat.zero_le _⟩
  | tup ds =>
   simp only [Aq] at e
   cases eo : Ca (ds.map (Aq st n)) with
   | none => rw [eo] at e; cases e
   | some ps =>
    rw [eo] at e; cases e
    obtain ⟨h1, h2⟩ := all n ih _ _ eo
    exact ⟨h1, by simp only [PyData.depth]; omega⟩
  | loc m =>
   simp only [Aq] at e
   cases el : Az st m with
   | none => rw [el] at e; cases e
   | some ds =>
    rw [el] at e
    simp only [Option.bind_some] at e
    cases eo : Ca (ds.map (Aq st n)) with
    | none => rw [eo] at e; cases e
    | some ps =>
     rw [eo] at e; cases e
     obtain ⟨h1, h2⟩ := all n ih _ _ eo
     exact ⟨h1, by simp only [PyData.depth]; omega⟩
theorem Jz (h : Aq st n d = some p) (hn : n ≤ 64) : SeqAt.shaped p = true := by
 obtain ⟨h1, h2⟩ := jz n d p h
 unfold SeqAt.shaped
 rw [h1, decide_eq_true (by omega : p.depth ≤ 64)]
 rfl
def ka (g : G) (neg : Bool) : R2 := fun x y H Q => ∃ rho st d e p q, g.Sto rho st H ∧ g.Rep rho H d x ∧ g.Rep rho H e y ∧ Aq st 40 d = some p ∧ Aq st 40 e = some q ∧ Q (.bl (if neg then !PyData.eqv p q else PyData.eqv p q)) H
theorem Po (hK : X.K = g.K) (hu : X.A.units + 64 < cLine) : OpR X (compareOp .Eq) (ka g false) := by
 intro pins s sg H x y v u Q I rx ry h
 obtain ⟨rho, st, d, e, p, q, S, r1, r2, e1, e2, hq⟩ := h
 obtain ⟨as, h1⟩ := reads hK I S 40 d x v p r1 rx e1
 obtain ⟨bs, h2⟩ := reads hK I S 40 e y u q r2 ry e2
 exact SeqAt.compareEq_shaped h1 h2 (Jz e1 (by decide)) (Jz e2 (by decide)) hu ⟨.bl _, H, I, rfl, hq⟩
theorem xy (hK : X.K = g.K) (hu : X.A.units + 64 < cLine) : OpR X (compareOp .NotEq) (ka g true) := by
 intro pins s sg H x y v u Q I rx ry h
 obtain ⟨rho, st, d, e, p, q, S, r1, r2, e1, e2, hq⟩ := h
 obtain ⟨as, h1⟩ := reads hK I S 40 d x v p r1 rx e1
 obtain ⟨bs, h2⟩ := reads hK I S 40 e y u q r2 ry e2
 exact SeqAt.compareNe_shaped h1 h2 (Jz e1 (by decide)) (Jz e2 (by decide)) hu ⟨.bl _, H, I, rfl, hq⟩
theorem Pp {st : Sto} {x y : D} {b : Bool} (h : eqV st x y = some b) : ∃ p q, Aq st 40 x = some p ∧ Aq st 40 y = some q ∧ b = PyData.eqv p q := by
 unfold eqV at h
 cases e1 : Aq st 40 x with
 | none => rw [e1] at h; cases h
 | some p =>
  cases e2 : Aq st 40 y with
  | none => rw [e1, e2] at h; cases h
  | some q => rw [e1, e2] at h; cases h; exact ⟨p, q, rfl, rfl, rfl⟩
end DD
namespace DD
open PySem PySem.Spec L2
open PyProof.Rows hiding St RelV
section
variable {prog : Program} {w : World}
def pyN : Nat → D → PyData
 | _, .int i => .int i
 | _, .str x => .str x
 | n + 1, .tup ds => .tuple (ds.map (pyN n))
 | _, _ => .none
end
section
variable {prog : Program} {w : World}
end
variable {g : G} {X : Cx} {pos apos cpos : Pos} {F : Nat} {a b c : Expr} {a' b' c' : E}
end DD
namespace DD
open PySem PySem.Spec L2
variable {g : G} {X : Cx} {a b c : Expr} {a' b' c' : E} {pos : Pos}
theorem Ka (h : cmD k x y st = .ok d st') : ∃ b, d = .bl b := by
 cases k <;> simp only [cmD] at h <;> (repeat' (split at h)) <;> first | (cases h; exact ⟨_, rfl⟩) | cases h
theorem cmT (q : tT g (.cm k a' b') sg H Q) : tE g (.cm k a' b') sg H (fun x H' => ∃ z, x = .bl z ∧ Q z H') := by
 obtain ⟨rho, st, env, s, n, q⟩ := q
 refine ⟨rho, st, env, s, n, ?_⟩
 simp only [aq] at q
 simp only [Ad]
 revert q
 cases Ad g.tab g.call a' env st with
 | bad => exact fun q => q
 | exc c st1 => exact fun q => q
 | ok x st1 =>
  simp only [bo]
  cases Ad g.tab g.call b' env st1 with
  | bad => exact fun q => q
  | exc c st2 => exact fun q => q
  | ok y st2 =>
   simp only [bo]
   cases e : cmD k x y st2 with
   | bad => exact fun q => q
   | exc c st3 => exact fun q => q
   | ok d st3 =>
    obtain ⟨z, rfl⟩ := Ka e
    simp only [bo]
    intro q v H' rho' k1 s1 r1
    exact ⟨z, bh.mp r1, (show da g rho H Q z st3 from q) H' rho' k1 s1⟩
theorem pq  {sg : L2.St} {H : Hp} {Q : VK} (q : tE g (.cm .eq a' b') sg H Q) : tOp (ka g false) (tE g a') (tE g b') sg H Q := by
 obtain ⟨rho, st, env, s, n, q⟩ := q
 simp only [Ad] at q
 refine two (k := cmD .eq) ?_ s n q
 intro x y u v st rho H Q s rx ry q
 simp only [cmD] at q
 cases e : eqV st x y with
 | none => rw [e] at q; exact q.elim
 | some z =>
  rw [e] at q
  obtain ⟨p1, p2, h1, h2, rfl⟩ := Pp e
  exact ⟨rho, st, x, y, p1, p2, s, rx, ry, h1, h2, (show ar g rho H Q (.bl _) st from q) _ H rho (.refl _ _) s (bh.mpr rfl)⟩
theorem Lz (hK : X.K = g.K) (hu : X.A.units + 64 < cLine) (ha : Sd g X a a') (hb : Sd g X b b') : Sd g X (.Compare a [.Eq] [b] pos) (.cm .eq a' b') := bb (Jr (Po hK hu) ha hb (Fu _)) fun sg H Q q => pq q
theorem Cq (hK : X.K = g.K) (hu : X.A.units + 64 < cLine) (ha : Sd g X a a') (hb : Sd g X b b') : SdT g X (.Compare a [.Eq] [b] pos) (.cm .eq a' b') := Eh (gm (Po hK hu) ha hb (Fu _)) fun sg H Q q => pq (cmT q)
theorem Xy  {sg : L2.St} {H : Hp} {Q : VK} (q : tE g (.cm .ne a' b') sg H Q) : tOp (ka g true) (tE g a') (tE g b') sg H Q := by
 obtain ⟨rho, st, env, s, n, q⟩ := q
 simp only [Ad] at q
 refine two (k := cmD .ne) ?_ s n q
 intro x y u v st rho H Q s rx ry q
 simp only [cmD] at q
 cases e : eqV st x y with
 | none => rw [e] at q; exact q.elim
 | some z =>
  rw [e] at q
  obtain ⟨p1, p2, h1, h2, rfl⟩ := Pp e
  exact ⟨rho, st, x, y, p1, p2, s, rx, ry, h1, h2, (show ar g rho H Q (.bl _) st from q) _ H rho (.refl _ _) s (bh.mpr rfl)⟩
theorem ej (hK : X.K = g.K) (hu : X.A.units + 64 < cLine) (ha : Sd g X a a') (hb : Sd g X b b') : SdT g X (.Compare a [.NotEq] [b] pos) (.cm .ne a' b') := Eh (gm (xy hK hu) ha hb (Fu _)) fun sg H Q q => Xy (cmT q)
theorem ints2 {r : Int → Int → Bool} {k : Cm} (hk : ∀ x y st, cmD k x y st = match x, y with | .int i, .int j => .ok (.bl (r i j)) st | _, _ => .bad) {sg : L2.St} {H : Hp} {Q : VK}
    (q : tE g (.cm k a' b') sg H Q) : tOp (rI0 fun i j => .bl (r i j)) (tE g a') (tE g b') sg H Q := by
  obtain ⟨rho, st, env, s, n, q⟩ := q
  simp only [Ad] at q
  refine two (k := cmD k) ?_ s n q
  intro x y u v st rho H Q s rx ry q
  rw [hk] at q
  cases x with
  | int i =>
    cases y with
    | int j => exact ⟨i, j, aw.mp rx, aw.mp ry, q _ H rho (.refl _ _) s (bh.mpr rfl)⟩
    | _ => exact q.elim
  | _ => exact q.elim
theorem jb (ha : Sd g X a a') (hb : Sd g X b b') : SdT g X (.Compare a [.Lt] [b] pos) (.cm .lt a' b') := Eh (gm vj ha hb (Fu _)) fun sg H Q q => ints2 (fun x y st => by cases x <;> cases y <;> rfl) (cmT q)
theorem Pq (ha : Sd g X a a') (hb : Sd g X b b') : SdT g X (.Compare a [.Gt] [b] pos) (.cm .gt a' b') := Eh (gm vk ha hb (Fu _)) fun sg H Q q => ints2 (fun x y st => by cases x <;> cases y <;> rfl) (cmT q)
theorem Xz (ha : Sd g X a a') (hb : Sd g X b b') : Sd g X (.Compare a [.GtE] [b] pos) (.cm .ge a' b') := bb (Jr Of ha hb (Fu _)) fun sg H Q q => ints2 (fun x y st => by cases x <;> cases y <;> rfl) q
theorem ya (ha : Sd g X a a') (hb : Sd g X b b') : SdT g X (.Compare a [.GtE] [b] pos) (.cm .ge a' b') := Eh (gm Of ha hb (Fu _)) fun sg H Q q => ints2 (fun x y st => by cases x <;> cases y <;> rfl) (cmT q)
theorem Kb (s : g.Sto rho st H) (r : g.Rep rho H d v) (h : dq st d = some ds) : ∃ p vs, v = .ref p ∧ (SqL g.K H p vs ∨ SqT g.K H p vs) ∧ g.RepL rho H ds vs := by
 cases d with
 | tup xs =>
  simp only [dq] at h; cases h
  obtain ⟨p, vs, e, q, rl⟩ := bz.mp r
  exact ⟨p, vs, e, .inr q, rl⟩
 | loc n =>
  simp only [dq] at h
  obtain ⟨p, vs, h1, q, rl⟩ := Ei s h
  obtain ⟨p2, h2, e⟩ := Bl.mp r
  rw [h1] at h2; cases h2
  exact ⟨p, vs, e, .inl q, rl⟩
 | _ => cases h
theorem kc {a b : D} {k : Key} (h : kD a = some k) (h2 : kD b = some k) : a = b := by
 cases a <;> cases b <;> simp only [kD, Option.some.injEq, reduceCtorEq] at h h2 <;> first | (rw [← h] at h2; cases h2; rfl) | (rw [← h] at h2; cases h2)
theorem ma {a : D} (h : Dq a = true) : ∃ k, kD a = some k := by
 cases a <;> simp [Dq] at h <;> exact ⟨_, rfl⟩
theorem Ma {rho : List Addr} {H : Hp} {a : D} {v : V} {k : Key} (r : g.Rep rho H a v) (h : kD a = some k) : v = kV k := by
 cases a with
 | int i => cases aw.mp r; cases h; rfl
 | str x => cases bu.mp r; cases h; rfl
 | _ => cases h
theorem Pt {rho : List Addr} {H : Hp} {a : D} {k : Key} (ha : kD a = some k) : ∀ {kvs : List (D × D)} {ws : List (Key × V)}, az g.K rho H kvs ws →
    (∀ x, bp kvs a = some x → ∃ v, Cp ws k = some v ∧ g.Rep rho H x v) ∧ (bp kvs a = none → Cp ws k = none)
  | [], ws, h => by
    simp only [az] at h; subst h
    exact ⟨fun x e => by simp [bp] at e, fun _ => rfl⟩
  | (b, d) :: r, ws, h => by
    simp only [az] at h
    obtain ⟨k', v, t, rfl, hk, rp, rest⟩ := h
    by_cases e : b = a
    · subst e
      rw [ha] at hk; cases hk
      refine ⟨fun x ex => ⟨v, by simp [Cp], ?_⟩, fun en => by simp [bp] at en⟩
      simp [bp] at ex; subst ex; exact rp
    · have hkk : k' ≠ k := fun z => e (kc (by rw [hk, z]) ha)
      obtain ⟨h1, h2⟩ := Pt ha rest
      refine ⟨fun x ex => ?_, fun en => ?_⟩
      · obtain ⟨v', e1, e2⟩ := h1 x (by simpa [bp, e] using ex)
        exact ⟨v', by simpa [Cp, hkk] using e1, e2⟩
      · have := h2 (by simpa [bp, e] using en)
        simpa [Cp, hkk] using this
theorem ic (s : g.Sto rho st H) (h : Cc st n = some kvs) : ∃ a ws, rho[n]? = some a ∧ st[n]? = some (.dct kvs) ∧ H a = some (.dK ws) ∧ az g.K rho H kvs ws := by
 unfold Cc at h
 split at h
 · rename_i kvs' e
   cases h
   have hl : n < rho.length := by rw [s.len]; exact (List.getElem?_eq_some_iff.mp e).1
   obtain ⟨ws, h1, h2⟩ := s.cells n rho[n] _ (List.getElem?_eq_getElem hl) e
   exact ⟨rho[n], ws, List.getElem?_eq_getElem hl, e, h1, h2⟩
 · cases h
def Kc (g : G) (neg : Bool) : R2 := fun x y H Q => ∃ rho st a b z, g.Sto rho st H ∧ g.Rep rho H a x ∧ g.Rep rho H b y ∧ inD st a b = some z ∧ Q (.bl (if neg then !z else z)) H
theorem Ya {st : Sto} {a b : D} {z : Bool} (h : inS st a b = some z) : ∃ p ys, Aq st 40 a = some p ∧ (Aq st 41 b = some (.list ys) ∨ Aq st 41 b = some (.tuple ys)) ∧ z = ys.any fun y => PyData.eqv y p := by
 unfold inS at h
 split at h
 · rename_i x ys e1 e2; cases h; exact ⟨x, ys, e1, .inl e2, rfl⟩
 · rename_i x ys e1 e2; cases h; exact ⟨x, ys, e1, .inr e2, rfl⟩
 · cases h
theorem ke {A : Around} (hu : A.units + 64 < cLine) {a b : Nat} (hb : b ≤ 40) : A.units + 1 + min a b < cLine := by
 have : min a b ≤ b := Nat.min_le_right _ _
 omega
theorem yb (hK : X.K = g.K) (hu : X.A.units + 64 < cLine) {pins : List (Addr × Obj)} {s : Shared} {sg : L2.St} {H : Hp} {rho : List Addr} {st : Sto} {a b : D} {x y : V} {v u : Value} {z : Bool} {Q : VK} (I : Inv X pins sg H s) (S : g.Sto rho st H) (r1 : g.Rep rho H a x) (r2 : g.Rep rho H b y) (rx : RelV x v) (ry : RelV y u)
    (h : inS st a b = some z) : (Q (.bl z) H → wpAny (model X.prog X.w) X.A (compareOp .In v u) (EP X pins sg Q) X.xe s) ∧ (Q (.bl (!z)) H → wpAny (model X.prog X.w) X.A (compareOp .NotIn v u) (EP X pins sg Q) X.xe s) := by
  obtain ⟨p, ys, e1, e2, rfl⟩ := Ya h
  obtain ⟨as, h1⟩ := reads hK I S 40 a x v p r1 rx e1
  obtain ⟨c1, c2⟩ := jz 40 a p e1
  rcases e2 with e2 | e2
  · obtain ⟨bs, h2⟩ := reads hK I S 41 b y u _ r2 ry e2
    obtain ⟨c3, c4⟩ := jz 41 b _ e2
    exact ⟨fun q => PySem.SeqAt.in_list_reads h2 h1 c3 c1 (ke hu c2) ⟨.bl _, H, I, rfl, q⟩, fun q => PySem.SeqAt.notIn_list_reads h2 h1 c3 c1 (ke hu c2) ⟨.bl _, H, I, rfl, q⟩⟩
  · obtain ⟨bs, h2⟩ := reads hK I S 41 b y u _ r2 ry e2
    obtain ⟨c3, c4⟩ := jz 41 b _ e2
    exact ⟨fun q => PySem.SeqAt.in_tuple_reads h2 h1 c3 c1 (ke hu c2) ⟨.bl _, H, I, rfl, q⟩, fun q => PySem.SeqAt.notIn_tuple_reads h2 h1 c3 c1 (ke hu c2) ⟨.bl _, H, I, rfl, q⟩⟩
theorem Pu (hK : X.K = g.K) (hw : g.cls.w = X.w) (hu : X.A.units + 64 < cLine) {pins : List (Addr × Obj)} {s : Shared} {sg : L2.St} {H : Hp} {rho : List Addr} {st : Sto} {a b : D} {x y : V} {v u : Value} {z : Bool} {Q : VK} (I : Inv X pins sg H s) (S : g.Sto rho st H) (r1 : g.Rep rho H a x) (r2 : g.Rep rho H b y) (rx : RelV x v) (ry : RelV y u)
    (h : inD st a b = some z) : (Q (.bl z) H → wpAny (model X.prog X.w) X.A (compareOp .In v u) (EP X pins sg Q) X.xe s) ∧ (Q (.bl (!z)) H → wpAny (model X.prog X.w) X.A (compareOp .NotIn v u) (EP X pins sg Q) X.xe s) := by
  cases b with
  | str t =>
    simp only [inD] at h
    cases a with
    | str w =>
      cases h
      cases bu.mp r1; cases bu.mp r2
      exact ⟨fun q => Vk pins s sg H _ _ v u Q I rx ry ⟨_, _, rfl, rfl, q⟩, fun q => vm pins s sg H _ _ v u Q I rx ry ⟨_, _, rfl, rfl, q⟩⟩
    | _ => cases h
  | _ => exact yb hK hu I S r1 r2 rx ry h
theorem Yb (hK : X.K = g.K) (hw : g.cls.w = X.w) (hu : X.A.units + 64 < cLine) : OpR X (compareOp .In) (Kc g false) := by
 rintro pins s sg H x y v u Q I rx ry ⟨rho, st, a, b, z, S, r1, r2, h, q⟩
 exact (Pu hK hw hu I S r1 r2 rx ry h).1 q
theorem yc (hK : X.K = g.K) (hw : g.cls.w = X.w) (hu : X.A.units + 64 < cLine) : OpR X (compareOp .NotIn) (Kc g true) := by
 rintro pins s sg H x y v u Q I rx ry ⟨rho, st, a, b, z, S, r1, r2, h, q⟩
 exact (Pu hK hw hu I S r1 r2 rx ry h).2 q
theorem Yc {sg : L2.St} {H : Hp} {Q : VK} (q : tE g (.cm .inL a' b') sg H Q) : tOp (Kc g false) (tE g a') (tE g b') sg H Q := by
 obtain ⟨rho, st, env, s, n, q⟩ := q
 simp only [Ad] at q
 refine two (k := cmD .inL) ?_ s n q
 intro x y u v st rho H Q s rx ry q
 simp only [cmD] at q
 cases e : inD st x y with
 | none => rw [e] at q; exact q.elim
 | some z =>
  rw [e] at q
  exact ⟨rho, st, x, y, z, s, rx, ry, e, (show ar g rho H Q (.bl _) st from q) _ H rho (.refl _ _) s (bh.mpr rfl)⟩
theorem yd {sg : L2.St} {H : Hp} {Q : VK} (q : tE g (.cm .notIn a' b') sg H Q) : tOp (Kc g true) (tE g a') (tE g b') sg H Q := by
 obtain ⟨rho, st, env, s, n, q⟩ := q
 simp only [Ad] at q
 refine two (k := cmD .notIn) ?_ s n q
 intro x y u v st rho H Q s rx ry q
 simp only [cmD] at q
 cases e : inD st x y with
 | none => rw [e] at q; exact q.elim
 | some z =>
  rw [e] at q
  exact ⟨rho, st, x, y, z, s, rx, ry, e, (show ar g rho H Q (.bl _) st from q) _ H rho (.refl _ _) s (bh.mpr rfl)⟩
theorem Yd (hK : X.K = g.K) (hw : g.cls.w = X.w) (hu : X.A.units + 64 < cLine) (ha : Sd g X a a') (hb : Sd g X b b') (hm : behindInMarks .NotIn b = false := by rfl) : Sd g X (.Compare a [.NotIn] [b] pos) (.cm .notIn a' b') := bb (Jr (yc hK hw hu) ha hb hm) fun sg H Q q => yd q
theorem pw (hK : X.K = g.K) (hw : g.cls.w = X.w) (hu : X.A.units + 64 < cLine) (ha : Sd g X a a') (hb : Sd g X b b') (hm : behindInMarks .In b = false := by rfl) : Sd g X (.Compare a [.In] [b] pos) (.cm .inL a' b') := bb (Jr (Yb hK hw hu) ha hb hm) fun sg H Q q => Yc q
theorem ye (r : g.RepL rho H ds vs) (h : atD ds i = some d) : ∃ v, atI vs i = some v ∧ g.Rep rho H d v := by
 unfold atD atI at h
 have hl := r.length
 cases e : ixN ds.length i with
 | none => rw [e] at h; cases h
 | some j =>
  rw [e] at h
  obtain ⟨v, e1, r1⟩ := r.get h
  refine ⟨v, ?_, r1⟩
  unfold atI
  rw [← hl, e]
  exact e1
theorem Bm (hK : X.K = g.K) (hw : g.cls.w = X.w) (hu : X.A.units + 64 < cLine) (ha : Sd g X a a') (hb : Sd g X b b') (hs : Jt b) : Sd g X (.Subscript a b pos) (.ix a' b') := bb (Ls Ws ha hb hs) fun sg H Q q => by
 obtain ⟨rho, st, env, s, n, q⟩ := q
 simp only [Ad] at q
 refine two (k := ixD) ?_ s n q
 intro x y u v st rho H Q s rx ry q
 have seq : RQ g (ixS x y st) (ar g rho H Q) rho H → rIx X.K u v H Q := by
  intro q
  cases y with
  | int i =>
   simp only [ixS] at q
   split at q
   · rename_i xs e
     split at q
     · rename_i d ed
       obtain ⟨p, vs, rfl, sq, rl⟩ := Kb s rx e
       obtain ⟨w, e1, r1⟩ := ye rl ed
       have fin : Q w H := (show ar g rho H Q d st from q) _ H rho (.refl _ _) s r1
       rw [← hK] at sq
       rcases sq with sq | sq
       · exact .inl ⟨p, vs, i, w, rfl, aw.mp ry, sq, e1, fin⟩
       · exact .inr (.inl ⟨p, vs, i, w, rfl, aw.mp ry, sq, e1, fin⟩)
     · exact q.elim
   · split at q
     · rename_i z _
       split at q
       · rename_i c ec
         split at q
         · rename_i hz
           exact .inr (.inr ⟨_, i, c, bu.mp rx, aw.mp ry, hz, ec, (show ar g rho H Q _ st from q) _ H rho (.refl _ _) s (bu.mpr rfl)⟩)
         · exact q.elim
       · exact q.elim
     · exact q.elim
  | _ => exact q.elim
 exact seq q
variable {g : G} {X : Cx} {a b c : Expr} {a' b' c' : E} {pos : Pos} {rest es : List Expr} {es' : Es}
theorem fx {op} (h : Sd g X a a') : Sd g X (.BoolOp op [a] pos) a' := Uo h
theorem Ej (ha : Sd g X a a') (hb : Sd g X (.BoolOp .And (b :: rest) pos) b') : Sd g X (.BoolOp .And (a :: b :: rest) pos) (.andE a' b') := bb (Up ha hb) fun sg H Q q => by
 obtain ⟨rho, st, env, s, n, q⟩ := q
 simp only [Ad] at q
 refine step s n q fun x st1 u H1 r1 k1 s1 n1 rp q1 => ?_
 cases x with
 | bl t =>
  cases t with
  | true => exact ⟨true, bh.mp rp, Gp ⟨r1, st1, env, s1, n1, RQ.mono (.refl _ _) q1 fun _ _ p => p.mono k1⟩⟩
  | false => exact ⟨false, bh.mp rp, gp ((show ar g rho H Q (.bl false) st1 from q1) _ H1 r1 k1 s1 (bh.mpr rfl))⟩
 | _ => exact q1.elim
theorem Ye (ha : Sd g X a a') : Sd g X (.UnaryOp .Not a pos) (.notE a') := bb (uq ha) fun sg H Q q => by
 obtain ⟨rho, st, env, s, n, q⟩ := q
 simp only [Ad] at q
 refine step s n q fun x st1 u H1 r1 k1 s1 n1 rp q1 => ?_
 cases x with
 | bl t => exact ⟨t, bh.mp rp, (show ar g rho H Q (.bl (!t)) st1 from q1) _ H1 r1 k1 s1 (bh.mpr rfl)⟩
 | _ => exact q1.elim
theorem Pw (hc : SdT g X c c') (ha : Sd g X a a') (hb : Sd g X b b') : Sd g X (.IfExp c a b pos) (.ifE c' a' b') := bb (Uq hc ha hb) fun sg H Q q => by
 obtain ⟨rho, st, env, s, n, q⟩ := q
 simp only [Ad] at q
 refine stepT s n q fun t st1 H1 r1 k1 s1 n1 q1 => ?_
 cases t with
 | true => exact Gp ⟨r1, st1, env, s1, n1, RQ.mono (.refl _ _) q1 fun _ _ p => p.mono k1⟩
 | false => exact gp ⟨r1, st1, env, s1, n1, RQ.mono (.refl _ _) q1 fun _ _ p => p.mono k1⟩
theorem bts {r : List V → Hp → VK → Prop} {f : Bt} (hr : ∀ ds vs st rho H Q, g.Sto rho st H → g.RepL rho H ds vs → RQ g (btD f ds st) (ar g rho H Q) rho H → r vs H Q) {sg : L2.St} {H : Hp} {Q : VK} (q : tE g (.bt f es') sg H Q) : tCB r (tEs g es') sg H Q := by
 obtain ⟨rho, st, env, s, n, q⟩ := q
 simp only [Ad] at q
 refine eh s n q fun ds st1 vs H1 r1 k1 s1 n1 rps q1 => ?_
 exact hr ds vs st1 r1 H1 Q s1 rps (RQ.mono (.refl _ _) q1 fun _ _ p => p.mono k1)
theorem Fx {rho : List Addr} {H : Hp} {d : D} {vs : List V} (r : g.RepL rho H [d] vs) : ∃ v, vs = [v] ∧ g.Rep rho H d v := by
 simp only [RepL] at r
 obtain ⟨v, t, rfl, r1, rfl⟩ := r
 exact ⟨v, rfl, r1⟩
theorem Jb (q : RQ g (btD f ds st) ok rho H) : ∃ d, ds = [d] := by
 cases ds with
 | nil => cases f <;> exact q.elim
 | cons d t =>
  cases t with
  | nil => exact ⟨d, rfl⟩
  | cons e u =>
   exfalso
   cases f <;> (cases d <;> exact q.elim)
theorem Px {p : Pos} (hg : Gl X "abs") (hm : X.mg "abs" = none) (ha : SdL g X (e :: es) es') (he : starEach (e :: es) X.env = (false, eval e X.env) :: starEach es X.env := by rfl) (hpl : (backTo pos (starEach es X.env)).any (·.1) = false := by rfl) :
    Sd g X (.Call (.Name "abs" p) (e :: es) [] pos) (.bt .absB es') := bb (Hz Vp hg hm rfl ha (by decide) (by decide) he hpl) fun sg H Q q => by
  refine bts (f := .absB) (fun ds vs st rho H Q s r q => ?_) q
  obtain ⟨d, rfl⟩ := Jb q
  obtain ⟨v, rfl, r1⟩ := Fx r
  cases d with
  | int i => cases aw.mp r1; exact ⟨i, rfl, q _ H rho (.refl _ _) s (aw.mpr rfl)⟩
  | _ => exact q.elim
theorem Ek {p : Pos} (hK : X.K = g.K) (hg : Gl X "len") (hm : X.mg "len" = none) (ha : SdL g X (e :: es) es') (he : starEach (e :: es) X.env = (false, eval e X.env) :: starEach es X.env := by rfl) (hpl : (backTo pos (starEach es X.env)).any (·.1) = false := by rfl) :
    Sd g X (.Call (.Name "len" p) (e :: es) [] pos) (.bt .lenB es') := bb (Hz (df.or wu Wu) hg hm rfl ha (by decide) (by decide) he hpl) fun sg H Q q => by
  refine bts (f := .lenB) (fun ds vs st rho H Q s r q => ?_) q
  obtain ⟨d, rfl⟩ := Jb q
  obtain ⟨v, rfl, r1⟩ := Fx r
  have seq : ∀ xs, dq st d = some xs → ar g rho H Q (.int xs.length) st → ∃ p ys, [v] = [V.ref p] ∧ (SqL X.K H p ys ∨ SqT X.K H p ys) ∧ Q (.int ys.length) H := by
    intro xs e q
    obtain ⟨p, ws, rfl, sq, rl⟩ := Kb s r1 e
    refine ⟨p, ws, rfl, by rw [hK]; exact sq, ?_⟩
    rw [← rl.length]
    exact q _ H rho (.refl _ _) s (aw.mpr rfl)
  cases d with
  | tup xs => exact .inl (seq xs rfl q)
  | loc n =>
    simp only [btD] at q
    split at q
    · rename_i xs e
      exact .inl (seq xs e q)
    · exact q.elim
  | str z =>
    simp only [btD] at q
    split at q
    · rename_i hz
      cases bu.mp r1
      exact .inr ⟨z, rfl, hz, (show ar g rho H Q (.int _) st from q) _ H rho (.refl _ _) s (aw.mpr rfl)⟩
    · exact q.elim
  | _ => exact q.elim
theorem yf {p : Pos} (hK : X.K = g.K) (hg : Gl X "tuple") (hm : X.mg "tuple" = none) (ha : SdL g X (e :: es) es') (he : starEach (e :: es) X.env = (false, eval e X.env) :: starEach es X.env := by rfl) (hpl : (backTo pos (starEach es X.env)).any (·.1) = false := by rfl) :
    Sd g X (.Call (.Name "tuple" p) (e :: es) [] pos) (.bt .tupleB es') := bb (oo Ww hg hm rfl ha (by decide) (by decide) he hpl) fun sg H Q q => by
  refine bts (f := .tupleB) (fun ds vs st rho H Q s r q => ?_) q
  obtain ⟨d, rfl⟩ := Jb q
  obtain ⟨v, rfl, r1⟩ := Fx r
  simp only [btD] at q
  split at q
  · rename_i xs e
    have q : ar g rho H Q (.tup xs) st := q
    obtain ⟨p, ws, rfl, sq, rl⟩ := Kb s r1 e
    rw [← hK] at sq
    refine ⟨p, ws, rfl, ?_⟩
    rcases sq with sq | sq
    · refine .inl ⟨sq, fun l hl => ?_⟩
      have e := ff hl (.tup ws)
      exact q (.ref l) _ rho (bg.keep e rho) (s.same e) (bz.mpr ⟨l, ws, rfl, SqT.of cj, rl.mono (bg.keep e rho)⟩)
    · exact .inr ⟨sq, q (.ref p) H rho (.refl _ _) s (bz.mpr ⟨p, ws, rfl, by rw [← hK]; exact sq, rl⟩)⟩
  · exact q.elim
theorem jc {p : Pos} (hK : X.K = g.K) (hg : Gl X "list") (hm : X.mg "list" = none) (ha : SdL g X (e :: es) es') (he : starEach (e :: es) X.env = (false, eval e X.env) :: starEach es X.env := by rfl) (hpl : (backTo pos (starEach es X.env)).any (·.1) = false := by rfl) :
    Sd g X (.Call (.Name "list" p) (e :: es) [] pos) (.bt .listB es') := bb (oo Wv hg hm rfl ha (by decide) (by decide) he hpl) fun sg H Q q => by
  refine bts (f := .listB) (fun ds vs st rho H Q s r q => ?_) q
  obtain ⟨d, rfl⟩ := Jb q
  obtain ⟨v, rfl, r1⟩ := Fx r
  simp only [btD] at q
  split at q
  · rename_i xs e
    obtain ⟨p, ws, rfl, sq, rl⟩ := Kb s r1 e
    exact ⟨p, ws, rfl, by rw [hK]; exact sq, fun l hl => Jx s rl hl q⟩
  · exact q.elim
def spD (K : PySem.W.Frag) (cls : CW) (np : Nat) (run : List D → Sto → Res D) : Sp := fun vs H Q Ex => vs.length = np ∧ ∃ rho st ds, StoRep K cls rho st H ∧ RepL K rho H ds vs ∧
 match run ds st with
 | .ok d st' => ∀ v H' rho', Keep K rho H rho' H' → StoRep K cls rho' st' H' → Rep K rho' H' d v → Q v H'
 | .exc k st' => ∀ H' rho', Keep K rho H rho' H' → StoRep K cls rho' st' H' → Ex (.ref (cls k)) none H'
 | .bad => False
theorem Am {k f : Nat} {fa : Addr} {fd : FuncData} {ps : List Str} {x : Str} {p : Pos} {e : Expr} {dv : List D} {dvs : List V} {ds : List Value} {np : Nat}
    (F : FnOk X.prog X.w X.K X.mg X.base (CXd X.prog X.w) k fa fd ps (spD g.K g.cls np (g.call f))) (hr : Room k X.A) (hg : Gl X x) (hm : X.mg x = some (.ref fa)) (hk : PySem.W.keepIn X.K (.ref fa) = true) (hb : Binds X.K fd ps ds) (hd : Vals dvs ds)
    (hdv : ∀ rho H, g.RepL rho H dv dvs) (hx : Passes (CXd X.prog X.w) X g.xk) (hl : ∀ ds st, ds.length ≠ np → g.call f ds st = .bad) (ha : SdL g X (e :: es) es') (hdb : (x == ("__debug__" : Str)) = false := by decide)
    (he : starEach (e :: es) X.env = (false, eval e X.env) :: starEach es X.env := by rfl) (hpl : (backTo pos (starEach es X.env)).any (·.1) = false := by rfl) : Sd g X (.Call (.Name x p) (e :: es) [] pos) (.call f es' dv) :=
  bb (Wd F hr hg hm hk hb hd hx ha hdb he hpl) fun sg H Q q => by
    obtain ⟨rho, st, env, s, n, q⟩ := q
    simp only [Ad] at q
    refine eh s n q fun ds st1 vs H1 r1 k1 s1 n1 rps q1 => ?_
    have rr := rps.append (hdv r1 H1)
    have hlen : (ds ++ dv).length = np := Decidable.byContradiction fun z => by rw [hl _ _ z] at q1; exact q1
    refine ⟨by rw [← rr.length]; exact hlen, r1, st1, ds ++ dv, s1, rr, ?_⟩
    revert q1
    cases g.call f (ds ++ dv) st1 with
    | ok d st' => exact fun q1 v H' rho' k s' r => (show ar g rho H Q d st' from q1) v H' rho' (k1.trans k) s' r
    | exc c st' => exact fun q1 H' rho' k s' => q1 H' rho' k s'
    | bad => exact fun q1 => q1
theorem Yf (ha : SdT g X a a') : PW X (.BoolOp .And [a] pos) (tT g a') := Uj ha
theorem di (ha : SdT g X a a') : PW X (.BoolOp .Or [a] pos) (tT g a') := uk ha
theorem Py (h : PW X e t) (hi : ∀ sg H Q, t' sg H Q → t sg H Q) : PW X e t' := fun whole pins s sg H Q I q => h whole pins s sg H Q I (hi _ _ _ q)
theorem yg (ha : SdT g X a a') (hb : PW X (.BoolOp .And (b :: rest) pos) (tT g b')) : PW X (.BoolOp .And (a :: b :: rest) pos) (tT g (.andE a' b')) := Py (Uk ha hb) fun sg H Q q => by
 obtain ⟨rho, st, env, s, n, q⟩ := q
 simp only [aq] at q
 refine stepT s n q fun t st1 H1 r1 k1 s1 n1 q1 => ?_
 cases t with
 | true => exact Gp ⟨r1, st1, env, s1, n1, RQ.mono (.refl _ _) q1 fun _ _ p => p.mono k1⟩
 | false => exact gp ((show da g rho H Q false st1 from q1) H1 r1 k1 s1)
theorem ck (ha : SdT g X a a') (hb : PW X (.BoolOp .Or (b :: rest) pos) (tT g b')) : PW X (.BoolOp .Or (a :: b :: rest) pos) (tT g (.orE a' b')) := Py (Ul ha hb) fun sg H Q q => by
 obtain ⟨rho, st, env, s, n, q⟩ := q
 simp only [aq] at q
 refine stepT s n q fun t st1 H1 r1 k1 s1 n1 q1 => ?_
 cases t with
 | true => exact Gp ((show da g rho H Q true st1 from q1) H1 r1 k1 s1)
 | false => exact gp ⟨r1, st1, env, s1, n1, RQ.mono (.refl _ _) q1 fun _ _ p => p.mono k1⟩
theorem Bq (ha : SdT g X a a') : SdT g X (.UnaryOp .Not a pos) (.notE a') := Eh (um ha) fun sg H Q q => by
 obtain ⟨rho, st, env, s, n, q⟩ := q
 simp only [aq] at q
 refine stepT s n q fun t st1 H1 r1 k1 s1 n1 q1 => ?_
 exact (show da g rho H Q (!t) st1 from q1) H1 r1 k1 s1
theorem Yg (s : g.Sto rho st H) (r : g.Rep rho H d v) (h : truth st d = some k) : Lo g.K v H k := by
 cases d with
 | non => cases dh.mp r; simp [truth] at h; subst h; rfl
 | bl b => cases bh.mp r; simp [truth] at h; subst h; rfl
 | int i => cases aw.mp r; simp only [truth] at h; cases h; rfl
 | str x =>
  cases bu.mp r
  simp only [truth] at h
  split at h
  · rename_i z; cases h; exact ⟨z, rfl⟩
  · cases h
 | tup ds =>
  obtain ⟨a, vs, rfl, q, rl⟩ := bz.mp r
  simp only [truth] at h; cases h
  have hl := rl.length
  exact .inr (.inl ⟨vs, q, by cases ds <;> cases vs <;> simp_all⟩)
 | loc n =>
  simp only [truth] at h
  cases el : Az st n with
  | none => rw [el] at h; cases h
  | some ds =>
   rw [el] at h; cases h
   obtain ⟨a, vs, h1, q, rl⟩ := Ei s el
   obtain ⟨a2, h2, rfl⟩ := Bl.mp r
   rw [h1] at h2; cases h2
   have hl := rl.length
   exact .inl ⟨vs, q, by cases ds <;> cases vs <;> simp_all⟩
theorem Bp (hK : X.K = g.K) (ha : Sd g X a a') (hev : ∀ env st, aq g.tab g.call a' env st = (Ad g.tab g.call a' env st).bind fun d st => match truth st d with | some b => .ok b st | none => .bad)
    (he : ∀ whole, isTrue a X.env whole = (do let v ← whole; standAt a.pos; holding [v] (truthy v))) : SdT g X a a' := Eh (Vo ha he) fun sg H Q q => by
  obtain ⟨rho, st, env, s, n, q⟩ := q
  rw [hev] at q
  refine step s n q fun d st1 v H1 r1 k1 s1 n1 rp q1 => ?_
  cases e : truth st1 d with
  | none => rw [e] at q1; exact q1.elim
  | some k =>
    rw [e] at q1
    exact ⟨k, by rw [hK]; exact Yg s1 rp e, (show da g rho H Q k st1 from q1) H1 r1 k1 s1⟩
variable {g : G} {X : Cx} {a b c : Expr} {a' b' c' : E} {pos : Pos} {rest es : List Expr} {es' : Es}
def kb (t T : String) : Option Bool := if ((Value.type t == Value.type T) = true) then some true else if PySem.W.kitMeta T = true then (fastBuiltinMro t).map (·.contains (.type T)) else none
theorem yh (K : PySem.W.Frag) (t T : String) : PySem.W.kitOne K (.type t) (.type T) = kb t T := rfl
theorem Yh (K : PySem.W.Frag) (ht : t ∈ ["NoneType", "bool", "int", "str", "tuple", "list", "dict"]) (hT : T ∈ ["bool", "int", "tuple", "list", "str", "dict"]) : PySem.W.kitOne K (.type t) (.type T) = subB t T := by
 rw [yh]
 simp only [List.mem_cons, List.mem_nil_iff, or_false] at ht hT
 rcases ht with rfl | rfl | rfl | rfl | rfl | rfl | rfl <;> rcases hT with rfl | rfl | rfl | rfl | rfl | rfl <;> first | rfl | kernel_rfl | decide +kernel
def Mb (g : G) (K : PySem.W.Frag) (T : Ty) (u : Value) : List V → Hp → VK → Prop := fun xs H Q => ∃ rho st d x cv t k, xs = [x, cv] ∧ RelV cv u ∧ g.Sto rho st H ∧ g.Rep rho H d x ∧ Cy st d = some t ∧ Dw g.tab t T = some k ∧ Q (.bl k) H
theorem Mc (hK : X.K = g.K) (hu : ∀ v w, RelV v u → RelV v w → w = u) (hB : ∀ t k, t ∈ ["NoneType", "bool", "int", "str", "tuple", "list", "dict"] → Dw g.tab (.b t) T = some k → PySem.W.kitOne X.K (.type t) u = some k)
    (hO : ∀ n k, g.tab n T = some k → ExcC X.K (g.cls n) ∧ PySem.W.kitOne X.K (.ref (g.cls n)) u = some k) : df X (.builtin "isinstance") (Mb g X.K T u) := by
  intro pins s sg H xs us Q I rv h
  obtain ⟨rho, st, d, x, cv, t, k, rfl, rc, S, r, ht, hs, q⟩ := h
  obtain ⟨u1, u2, rfl, ru1, ru2⟩ := vals2 rv
  obtain rfl := hu cv u2 rc ru2
  have fin : ∀ tk, EP X pins sg Q (.bool k) { s with toks := tk } := fun tk => ⟨.bl k, H, I.tok tk, rfl, q⟩
  cases d with
  | non =>
    cases dh.mp r; cases ru1; cases ht
    exact PySem.W.kia_one PySem.W.kitx_none I.kIn True.intro (hB _ _ (by simp) hs) (fun z => nomatch z) fin
  | bl y =>
    cases bh.mp r; cases ru1; cases ht
    exact PySem.W.kia_one PySem.W.kitx_bool I.kIn True.intro (hB _ _ (by simp) hs) (fun z => nomatch z) fin
  | int i =>
    cases aw.mp r; obtain ⟨_, rfl⟩ := ru1; cases ht
    exact PySem.W.kia_one PySem.W.kitx_int I.kIn True.intro (hB _ _ (by simp) hs) (fun z => nomatch z) fin
  | str i =>
    cases bu.mp r; obtain ⟨_, rfl⟩ := ru1; cases ht
    exact PySem.W.kia_one PySem.W.kitx_str I.kIn True.intro (hB _ _ (by simp) hs) (fun z => nomatch z) fin
  | tup ds =>
    obtain ⟨p, vs, rfl, sq, rl⟩ := bz.mp r
    cases ru1; cases ht
    rw [← hK] at sq
    obtain ⟨its, rvs, ⟨o, ho, hc, n', hd⟩, _⟩ := I.tuple sq
    exact PySem.W.kia_one PySem.W.kitx_tuple I.kIn ⟨o, ho, hc⟩ (hB _ _ (by simp) hs) (fun z => nomatch z) fin
  | loc n =>
    obtain ⟨p, hp, rfl⟩ := Bl.mp r
    cases ru1
    simp only [Cy] at ht
    cases ec : st[n]? with
    | none => rw [ec] at ht; cases ht
    | some cl =>
      rw [ec] at ht
      have cr := S.cells n p cl hp ec
      cases cl with
      | lst ds =>
        cases ht
        obtain ⟨vs, hH, _⟩ := cr
        obtain ⟨_, _, n', _, h1⟩ := (show Bk X.prog X.w H s.heap p (.lst vs) from I.hok p _ hH)
        exact PySem.W.kia_one PySem.W.kitx_list I.kIn ⟨_, h1, rfl⟩ (hB _ _ (by simp) hs) (fun z => nomatch z) fin
      | frz ds =>
        cases ht
        obtain ⟨vs, hH, _⟩ := cr
        rcases hH with ⟨o, hH⟩ | ⟨o, its, n', hk, hc, _⟩
        · obtain ⟨_, _, _, n', _, h1⟩ := (show Bk X.prog X.w H s.heap p (.frz o (.lst vs)) from I.hok p _ hH)
          exact PySem.W.kia_one PySem.W.kitx_list I.kIn ⟨_, h1, rfl⟩ (hB _ _ (by simp) hs) (fun z => nomatch z) fin
        · rw [← hK] at hk
          exact PySem.W.kia_one PySem.W.kitx_list I.kIn ⟨o, I.kIn _ _ hk, hc⟩ (hB _ _ (by simp) hs) (fun z => nomatch z) fin
      | dct kvs =>
        cases ht
        obtain ⟨ws, hH, _⟩ := cr
        obtain ⟨_, _, vs, _, o, es, ep, h1, h2, _⟩ := (show Bk X.prog X.w H s.heap p (.dK ws) from I.hok p _ hH)
        exact PySem.W.kia_one PySem.W.kitx_dict I.kIn ⟨o, h1, h2.1⟩ (hB _ _ (by simp) hs) (fun z => nomatch z) fin
      | ins m fs => cases ht
      | dcn kvs =>
        cases ht
        obtain ⟨ws, hH, _⟩ := cr
        obtain ⟨⟨_, _, _, o, es, ep, h1, h2, _⟩, _⟩ := (show Bk X.prog X.w H s.heap p (.ext _) from I.hok p _ hH)
        exact PySem.W.kia_one PySem.W.kitx_dict I.kIn ⟨o, h1, h2.1⟩ (hB _ _ (by simp) hs) (fun z => nomatch z) fin
      | dcf kvs =>
        cases ht
        obtain ⟨ws, u, hH, _⟩ := cr
        obtain ⟨_, _, _, vs, _, o, es, ep, h1, h2, _⟩ := (show Bk X.prog X.w H s.heap p (.frz u (.dK ws)) from I.hok p _ hH)
        exact PySem.W.kia_one PySem.W.kitx_dict I.kIn ⟨o, h1, h2.1⟩ (hB _ _ (by simp) hs) (fun z => nomatch z) fin
      | dcg kvs =>
        cases ht
        obtain ⟨ws, u, hH, _⟩ := cr
        obtain ⟨_, ⟨_, _, _, o, es, ep, h1, h2, _⟩, _⟩ := (show Bk X.prog X.w H s.heap p (.frz u (.ext _)) from I.hok p _ hH)
        exact PySem.W.kia_one PySem.W.kitx_dict I.kIn ⟨o, h1, h2.1⟩ (hB _ _ (by simp) hs) (fun z => nomatch z) fin
      | fnc i => cases ht
      | exn m =>
        cases ht
        have hH : H p = some (.ext (Ib p (.ref (g.cls m)))) := cr
        obtain ⟨⟨o, ws, h1, h2, h3⟩, _⟩ := (show Bk X.prog X.w H s.heap p (.ext (Ib p (.ref (g.cls m)))) from I.hok p _ hH)
        obtain ⟨x1, x2⟩ := hO m k hs
        exact PySem.W.kia_one (Xx x1) I.kIn ⟨o, h1, h2⟩ x2 (fun z => nomatch z) fin
variable {g : G} {X : Cx} {a b c : Expr} {a' b' c' : E} {pos : Pos} {rest es : List Expr} {es' : Es}
theorem md (hc : RelV cv u) (q : tE g (.isi a' T) sg H Q) : tCB (Mb g X.K T u) (Js (tE g a') (Js (tC cv) js)) sg H Q := by
 obtain ⟨rho, st, env, s, n, q⟩ := q
 simp only [Ad] at q
 refine step s n q fun d st1 v H1 r1 k1 s1 n1 rp q1 => ?_
 show Mb g X.K T u [v, cv] H1 Q
 cases et : Cy st1 d with
 | none => rw [et] at q1; exact q1.elim
 | some t =>
  rw [et] at q1
  simp only [Option.bind_some] at q1
  cases ek : Dw g.tab t T with
  | none => rw [ek] at q1; exact q1.elim
  | some k =>
   rw [ek] at q1
   exact ⟨r1, st1, d, v, cv, t, k, rfl, hc, s1, rp, et, ek, (show ar g rho H Q (.bl k) st1 from q1) _ H1 r1 k1 s1 (bh.mpr rfl)⟩
theorem Cv {p p2 : Pos} (hK : X.K = g.K) (hT : T ∈ ["bool", "int", "tuple", "list", "str", "dict"]) (hO : ∀ n, g.tab n (.b T) = none) (hg : Gl X "isinstance") (hm : X.mg "isinstance" = none) (hg2 : Gl X x) (hm2 : X.mg x = none) (hv : bootBuiltins x = some (.type T)) (ha : Sd g X a a')
    (hn : x ≠ "__name__" := by decide) (hd : (x == ("__debug__" : Str)) = false := by decide) (he : starEach [a, .Name x p2] X.env = (false, eval a X.env) :: starEach [.Name x p2] X.env := by rfl) (he2 : starEach [.Name x p2] X.env = (false, eval (.Name x p2) X.env) :: starEach [] X.env := by rfl) (hpl : (backTo pos (starEach [.Name x p2] X.env)).any (·.1) = false := by rfl) :
    Sd g X (.Call (.Name "isinstance" p) [a, .Name x p2] [] pos) (.isi a' (.b T)) := by
  have hc := Mc (X := X) (T := .b T) (u := .type T) hK (fun v w h1 h2 => by cases v <;> first | (cases h1; exact h2) | (obtain ⟨_, z⟩ := h1; cases z) | cases h1) (fun t k ht hs => by rw [Yh X.K ht hT]; exact hs) (fun n k h => by rw [hO n] at h; cases h)
  exact bb (Hz hc hg hm rfl (Ee ha (Ee (nz (v := .ty T) hg2 hm2 hv rfl hn hd) Hy he2) he) (by decide) (by decide) he hpl) fun sg H Q q => md (cv := .ty T) rfl q
theorem gu {p p2 : Pos} (hK : X.K = g.K) (hO : ∀ n k, g.tab n (.o m) = some k → ExcC X.K (g.cls n) ∧ PySem.W.kitOne X.K (.ref (g.cls n)) (.ref (g.cls m)) = some k) (hg : Gl X "isinstance") (hm : X.mg "isinstance" = none) (hg2 : Gl X x) (hm2 : X.mg x = some (.ref (g.cls m))) (ha : Sd g X a a')
    (hd : (x == ("__debug__" : Str)) = false := by decide) (he : starEach [a, .Name x p2] X.env = (false, eval a X.env) :: starEach [.Name x p2] X.env := by rfl) (he2 : starEach [.Name x p2] X.env = (false, eval (.Name x p2) X.env) :: starEach [] X.env := by rfl) (hpl : (backTo pos (starEach [.Name x p2] X.env)).any (·.1) = false := by rfl) :
    Sd g X (.Call (.Name "isinstance" p) [a, .Name x p2] [] pos) (.isi a' (.o m)) := by
  have hc := Mc (X := X) (T := .o m) (u := .ref (g.cls m)) hK (fun v w h1 h2 => by cases v <;> first | (cases h1; exact h2) | (obtain ⟨_, z⟩ := h1; cases z) | cases h1) (fun t k ht hs => by cases hs) hO
  exact bb (Hz hc hg hm rfl (Ee ha (Ee (iz (v := .ref (g.cls m)) hg2 hm2 rfl hd) Hy he2) he) (by decide) (by decide) he hpl) fun sg H Q q => md (cv := .ref (g.cls m)) rfl q
theorem yi {p p2 : Pos} (hK : X.K = g.K) (hT : T ∉ ["bool", "int", "tuple", "list", "str", "dict"]) (hb : ∀ t, t ∈ ["NoneType", "bool", "int", "str", "tuple", "list", "dict"] → subB t T = none) (hO : ∀ n k, g.tab n (.b T) = some k → ExcC X.K (g.cls n) ∧ PySem.W.kitOne X.K (.ref (g.cls n)) (.type T) = some k) (hg : Gl X "isinstance") (hm : X.mg "isinstance" = none) (hg2 : Gl X x) (hm2 : X.mg x = none) (hv : bootBuiltins x = some (.type T)) (ha : Sd g X a a')
    (hn : x ≠ "__name__" := by decide) (hd : (x == ("__debug__" : Str)) = false := by decide) (he : starEach [a, .Name x p2] X.env = (false, eval a X.env) :: starEach [.Name x p2] X.env := by rfl) (he2 : starEach [.Name x p2] X.env = (false, eval (.Name x p2) X.env) :: starEach [] X.env := by rfl) (hpl : (backTo pos (starEach [.Name x p2] X.env)).any (·.1) = false := by rfl) :
    Sd g X (.Call (.Name "isinstance" p) [a, .Name x p2] [] pos) (.isi a' (.b T)) := by
  have hc := Mc (X := X) (T := .b T) (u := .type T) hK (fun v w h1 h2 => by cases v <;> first | (cases h1; exact h2) | (obtain ⟨_, z⟩ := h1; cases z) | cases h1) (fun t k ht hs => by
    have hs : subB t T = some k := hs
    rw [hb t ht] at hs; cases hs) hO
  exact bb (Hz hc hg hm rfl (Ee ha (Ee (nz (v := .ty T) hg2 hm2 hv rfl hn hd) Hy he2) he) (by decide) (by decide) he hpl) fun sg H Q q => md (cv := .ty T) rfl q
variable {g : G} {X : Cx} {a b c : Expr} {a' b' c' : E} {pos : Pos} {rest es : List Expr} {es' : Es} {F : Nat}
def Bd (g : G) (rho : List Addr) (H : Hp) (D : Ends) (f : Fl) (st : Sto) : Prop := match f with
 | .next env => ∀ sg H' rho', g.Keep rho H rho' H' → g.Sto rho' st H' → g.Env rho' H' env sg → D.nx sg H'
 | .brk env => ∀ sg H' rho', g.Keep rho H rho' H' → g.Sto rho' st H' → g.Env rho' H' env sg → D.bk sg H'
 | .cont env => ∀ sg H' rho', g.Keep rho H rho' H' → g.Sto rho' st H' → g.Env rho' H' env sg → D.ct sg H'
 | .ret d => ∀ v H' rho', g.Keep rho H rho' H' → g.Sto rho' st H' → g.Rep rho' H' d v → D.rt v H'
theorem Bd.mono {rho rho' : List Addr} {H H' : Hp} {D : Ends} {f : Fl} {st : Sto} (k : g.Keep rho H rho' H') (h : Bd g rho H D f st) : Bd g rho' H' D f st := by
 cases f <;> exact fun x H2 r2 k2 => h x H2 r2 (k.trans k2)
def tS (g : G) (F : Nat) (s : S) : TS := fun D sg H => ∃ rho st env, g.Sto rho st H ∧ g.Env rho H env sg ∧ RQ g (An g.tab g.call F s env st) (Bd g rho H D) rho H
def tSs (g : G) (F : Nat) (s : Ss) : TS := fun D sg H => ∃ rho st env, g.Sto rho st H ∧ g.Env rho H env sg ∧ RQ g (aj g.tab g.call F s env st) (Bd g rho H D) rho H
def SdS (g : G) (X : Cx) (F : Nat) (st : Stmt) (s : S) : Prop := PS X st (tS g F s)
def Di (g : G) (X : Cx) (F : Nat) (st : List Stmt) (s : Ss) : Prop := PSs X st (tSs g F s)
theorem dc {t t' : TS} {e : Stmt} (h : PS X e t) (hi : ∀ D sg H, t' D sg H → t D sg H) : PS X e t' := fun pins s sg H D I q => h pins s sg H D I (hi _ _ _ q)
theorem pz (h : PSs X e t) (hi : ∀ D sg H, t' D sg H → t D sg H) : PSs X e t' := fun pins s sg H D I q => h pins s sg H D I (hi _ _ _ q)
theorem ah : Di g X F [] .nil := pz Ut fun D sg H q => by
 obtain ⟨rho, st, env, s, n, q⟩ := q
 exact (show Bd g rho H D (.next env) st from q) sg H rho (.refl _ _) s n
theorem ae (h : SdS g X F s1 s1') (t : Di g X F r1 r1') : Di g X F (s1 :: r1) (.cons s1' r1') := pz (uu h t) fun D sg H q => by
 obtain ⟨rho, st, env, s, n, q⟩ := q
 refine ⟨rho, st, env, s, n, ?_⟩
 simp only [aj] at q
 revert q
 cases An g.tab g.call F s1' env st with
 | bad => exact fun q => q
 | exc c st1 => exact fun q => q
 | ok f st1 =>
  simp only [bo]
  cases f with
  | next env1 => exact fun q sg1 H1 rho1 k1 s1 n1 => ⟨rho1, st1, env1, s1, n1, RQ.mono k1 q fun f st p => Bd.mono k1 p⟩
  | ret d => exact fun q => q
  | brk env1 => exact fun q => q
  | cont env1 => exact fun q => q
theorem Av (hN : X.N.Nodup) (hi : X.N[i]? = some x) (hx : Loc X.env.scope x) (he : Sd g X e e') (hs : swapsWith e (some (.Name x pos')) pos.line X.env = pure false := by rfl) (hf : X.fn x = true ∨ X.env.scope.names.lookup x = some .local := by first | exact .inl rfl | exact .inr rfl | assumption) :
    SdS g X F (.Assign [.Name x pos'] e pos) (.set i e') := dc (uy hN hi hx he hs hf) fun D sg H q => by
  obtain ⟨rho, st, env, s, n, q⟩ := q
  simp only [An] at q
  refine step s n q fun d st1 v H1 r1 k1 s1 n1 rp q1 => ?_
  split at q1
  · exact (show Bd g rho H D (.next _) st1 from q1) _ H1 r1 k1 s1 (n1.set i rp)
  · exact q1.elim
theorem Ao (he : Sd g X e e') : SdS g X F (.Return (some e) pos) (.ret e') := dc (uw he) fun D sg H q => by
 obtain ⟨rho, st, env, s, n, q⟩ := q
 simp only [An] at q
 refine step s n q fun d st1 v H1 r1 k1 s1 n1 rp q1 => ?_
 exact (show Bd g rho H D (.ret d) st1 from q1) v H1 r1 k1 s1 rp
theorem Df (he : Sd g X e e') (hs : swapsWith e none pos.line X.env = pure false := by rfl) : SdS g X F (.Expr e pos) (.ex e') := dc (uv he hs) fun D sg H q => by
 obtain ⟨rho, st, env, s, n, q⟩ := q
 simp only [An] at q
 refine step s n q fun d st1 v H1 r1 k1 s1 n1 rp q1 => ?_
 exact (show Bd g rho H D (.next env) st1 from q1) sg H1 r1 k1 s1 n1
theorem ay (hc : SdT g X c c') (hx : Di g X F x x') (hy : Di g X F y y') : SdS g X F (.If c x y pos) (.ifS c' x' y') := dc (ux hc hx hy) fun D sg H q => by
 obtain ⟨rho, st, env, s, n, q⟩ := q
 simp only [An] at q
 refine stepT s n q fun t st1 H1 r1 k1 s1 n1 q1 => ?_
 cases t with
 | true => exact Gp ⟨r1, st1, env, s1, n1, RQ.mono (.refl _ _) q1 fun _ _ p => p.mono k1⟩
 | false => exact gp ⟨r1, st1, env, s1, n1, RQ.mono (.refl _ _) q1 fun _ _ p => p.mono k1⟩
theorem dj {x txt : Str} {j : Nat} {np ap cpos : Pos} (hth : Throws X g.xk) (hh : X.A.handled = none) (hg : Gl X x) (hn : PySem.W.nsIn X.K mainGlobals x = some (some (.ref (g.cls C)))) (hm : X.mg x = some (.ref (g.cls C)))
    (hq : PySem.W.excIn X.K (g.cls C) [.type "ValueError", .type "Exception", .type "BaseException", .type "object"] "ValueError.__new__" = true) (hd : (x == ("__debug__" : Str)) = false := by decide) :
    SdS g X F (.Raise (some (.Call (.Name x np) [.Constant (.str txt) j ap] [] cpos)) none pos) (.raiseS C) := dc (xq (bmB := []) hth hh hg hn hm hq hd) fun D sg H q => by
  obtain ⟨rho, st, env, s, n, q⟩ := q
  exact q H rho (.refl _ _) s
theorem Yi (hp : PassesOwn (model X.prog X.w) X.A X.env X.xe) (hc : SdT g X c c') (hx : Di g X F x x') : SdS g X F (.While c x [] pos) (.whileS c' x') := dc (Va hp hc hx) fun D sg H q => by
 obtain ⟨rho, st, env, s, n, q⟩ := q
 simp only [An] at q
 refine ⟨fun m sg H => ∃ rho st env, g.Sto rho st H ∧ g.Env rho H env sg ∧ RQ g (whileLoop (aq g.tab g.call c') (aj g.tab g.call F x') m env st) (Bd g rho H D) rho H, ⟨F, rho, st, env, s, n, q⟩, ?_⟩
 rintro m sg H ⟨rho, st, env, s, n, q⟩
 cases m with
 | zero => exact q.elim
 | succ m =>
  simp only [whileLoop] at q
  refine stepT s n q fun t st1 H1 r1 k1 s1 n1 q1 => ?_
  cases t with
  | false =>
   refine gp ?_
   exact (show Bd g rho H D (.next env) st1 from q1) sg H1 r1 k1 s1 n1
  | true =>
   refine Gp ⟨fun sg H => ∃ rho st env, g.Sto rho st H ∧ g.Env rho H env sg ∧ RQ g (whileLoop (aq g.tab g.call c') (aj g.tab g.call F x') m env st) (Bd g rho H D) rho H, fun sg' H' h => ⟨m, Nat.lt_succ_self m, h⟩, r1, st1, env, s1, n1, ?_⟩
   revert q1
   cases aj g.tab g.call F x' env st1 with
   | bad => exact fun q => q
   | exc c st2 => exact fun q => q
   | ok f st2 =>
    simp only [bo]
    cases f with
    | next env2 => exact fun q sg2 H2 r2 k2 s2 n2 => ⟨r2, st2, env2, s2, n2, RQ.mono k2 q fun f st p => Bd.mono (k1.trans k2) p⟩
    | cont env2 => exact fun q sg2 H2 r2 k2 s2 n2 => ⟨r2, st2, env2, s2, n2, RQ.mono k2 q fun f st p => Bd.mono (k1.trans k2) p⟩
    | brk env2 => exact fun q => Bd.mono (f := .next env2) k1 q
    | ret d => exact fun q => Bd.mono (f := .ret d) k1 q
variable {g : G} {X : Cx} {a b c : Expr} {a' b' c' : E} {pos : Pos} {rest es : List Expr} {es' : Es} {F : Nat}
def gs : List Nat → TGs
 | [] => Lk
 | i :: r => Jp (Jo i) (gs r)
def tg (K : PySem.W.Frag) (is : List Nat) (one : Bool) : TG := if one then (match is with | [i] => Jo i | _ => fun _ _ _ _ => False) else ll K is.length (gs is)
theorem Pz : ∀ {is : List Nat} {ds : List D} {vs : List V} {env env' : Env} {sg : L2.St}, cb is ds env = some env' → g.RepL rho H ds vs → g.Env rho H env sg → (∀ sg', g.Env rho H env' sg' → Q sg' H) → gs is vs sg H Q
 | [], [], vs, env, env', sg, e, r, n, h => by
  simp only [RepL] at r; subst r
  simp only [cb] at e; cases e
  exact ⟨rfl, h sg n⟩
 | [], d :: t, vs, env, env', sg, e, r, n, h => by simp [cb] at e
 | i :: t, [], vs, env, env', sg, e, r, n, h => by simp [cb] at e
 | i :: t, d :: u, vs, env, env', sg, e, r, n, h => by
  simp only [RepL] at r
  obtain ⟨v, w, rfl, r1, r2⟩ := r
  simp only [cb] at e
  split at e
  · exact ⟨v, w, rfl, Pz e r2 (n.set i r1) h⟩
  · cases e
theorem Ic (e : store is one d env = some env') (r : g.Rep rho H d v) (n : g.Env rho H env sg) (h : ∀ sg', g.Env rho H env' sg' → Q sg' H) : tg g.K is one v sg H Q := by
 unfold store at e
 unfold tg
 cases one with
 | true =>
  rw [if_pos rfl] at e ⊢
  match is, e with
  | [i], e =>
   simp only [cb] at e
   split at e
   · cases e; exact h _ (n.set i r)
   · cases e
  | [], e => simp [cb] at e
  | i :: j :: t, e => simp [cb] at e
 | false =>
  rw [if_neg Bool.false_ne_true] at e ⊢
  cases d with
  | tup ds =>
   obtain ⟨p, vs, rfl, q, rl⟩ := bz.mp r
   refine ⟨p, vs, rfl, q, ?_, Pz e rl n h⟩
   have : ∀ {is : List Nat} {ds : List D} {env env' : Env}, cb is ds env = some env' → is.length = ds.length := by
    intro is
    induction is with
    | nil => intro ds env env' e; cases ds with
     | nil => rfl
     | cons _ _ => simp [cb] at e
    | cons i t ih => intro ds env env' e; cases ds with
     | nil => simp [cb] at e
     | cons _ _ =>
      simp only [cb] at e
      split at e
      · simp [ih e]
      · cases e
   rw [← rl.length, this e]
  | _ => cases e
theorem Cr (hN : X.N.Nodup) (hi : X.N[i]? = some x) (hx : Loc X.env.scope x) (hf : X.fn x = true ∨ X.env.scope.names.lookup x = some .local := by first | exact .inl rfl | exact .inr rfl | assumption) : PG X (.Name x pos) (tg g.K [i] true) := Ax hN hi hx hf
theorem Ck (he : Sd g X e e') (hg : PG X tgt (tg g.K is false)) (hs : swapsWithSole [tgt] e pos.line X.env = pure false := by rfl) (hw : swappedStores [tgt] e X.env = pure none := by rfl)
    (h1 : (assignEach [tgt] X.env).map (·.2) = [assign tgt X.env] := by rfl) : SdS g X F (.Assign [tgt] e pos) (.unp is e') := dc (Ux he hg hs hw h1) fun D sg H q => by
  obtain ⟨rho, st, env, s, n, q⟩ := q
  simp only [An] at q
  refine step s n q fun d st1 v H1 r1 k1 s1 n1 rp q1 => ?_
  split at q1
  · rename_i env' e1
    exact Ic e1 rp n1 fun sg' n' => (show Bd g rho H D (.next env') st1 from q1) sg' H1 r1 k1 s1 n'
  · exact q1.elim
theorem qa {kt k2 pt2} (hc : X.calm = true) (hN : X.N.Nodup) (hi : X.N[i]? = some x) (hj : X.N[j]? = some y) (hij : i ≠ j)
    (hx : X.env.scope.names.lookup x = some .local) (hy : X.env.scope.names.lookup y = some .local) (ha : Sd g X a a') (hb : Sd g X b b')
    (hw : swappedStores [.Tuple [.Name x px, .Name y py] kt pt] (.Tuple [a, b] k2 pt2) X.env = pure (some [x, y]))
    (hs : swapsWithSole [.Tuple [.Name x px, .Name y py] kt pt] (.Tuple [a, b] k2 pt2) pos.line X.env = pure false := by rfl) (h1 : starEach [a, b] X.env = (false, eval a X.env) :: starEach [b] X.env := by rfl) (h2 : starEach [b] X.env = (false, eval b X.env) :: starEach [] X.env := by rfl) :
    SdS g X F (.Assign [.Tuple [.Name x px, .Name y py] kt pt] (.Tuple [a, b] k2 pt2) pos) (.par i j a' b') := dc (uz hc hN hi hj hij hx hy (Ee ha (Ee hb Hy h2) h1) hw hs) fun D sg H q => by
  obtain ⟨rho, st, env, s, n, q⟩ := q
  simp only [An] at q
  refine step s n q fun d st1 v H1 r1 k1 s1 n1 rp q1 => ?_
  refine step s1 n1 q1 fun e st2 w H2 r2 k2 s2 n2 rp2 q2 => ?_
  split at q2
  · exact ⟨v, w, rfl, (show Bd g rho H D (.next _) st2 from q2) _ H2 r2 (k1.trans k2) s2 ((n2.set i (rp.mono k2)).set j rp2)⟩
  · exact q2.elim
theorem Md {J : It} {xs : List D} {p : Option Nat} {is : List Nat} {one : Bool} {x' : Ss} {r1 : List Addr} {H1 : Hp} {D : Ends} {sg : L2.St} {st1 : Sto} {env : Env}
    (hJ : ∀ rho st H, g.Keep r1 H1 rho H → g.Sto rho st H → stays st p xs = true → J.stop xs.length H ∧ ∀ (i : Nat) (d : DD.D), xs[i]? = some d → J.go i H ∧ ∀ x H', J.yld i H x H' → H' = H ∧ g.Rep rho H d x)
    (s1 : g.Sto r1 st1 H1) (n1 : g.Env r1 H1 env sg) (q1 : RQ g (forLoop xs p (fun d env st => match store is one d env with | some env' => aj g.tab g.call F x' env' st | none => .bad) xs env st1) (Bd g r1 H1 D) r1 H1) :
    ∃ W : Nat → Nat → L2.St → Hp → Prop, (∃ m, W 0 m sg H1) ∧ ∀ i m sg H, W i m sg H →
      (J.stop i H ∧ D.nx sg H) ∨ (J.go i H ∧ ∃ N : L2.St → Hp → Prop, (∀ sg' H', N sg' H' → ∃ m', m' < m ∧ W (i + 1) m' sg' H') ∧ ∀ x H', J.yld i H x H' → tg g.K is one x sg H' fun sg2 H2 => tSs g F x' { D with nx := N, ct := N, bk := D.nx } sg2 H2) := by
  refine ⟨fun i m sg H => m = xs.length - i ∧ i ≤ xs.length ∧ ∃ rho st env, g.Keep r1 H1 rho H ∧ g.Sto rho st H ∧ g.Env rho H env sg ∧ RQ g (forLoop xs p (fun d env st => match store is one d env with | some env' => aj g.tab g.call F x' env' st | none => .bad) (xs.drop i) env st) (Bd g rho H D) rho H, ⟨xs.length, by simp, Nat.zero_le _, r1, st1, env, .refl _ _, s1, n1, q1⟩, ?_⟩
  rintro i m sg H ⟨rfl, hi, rho, st, env, kk, s, n, q⟩
  have hst : stays st p xs = true := by
    cases z : stays st p xs with
    | true => rfl
    | false =>
      exfalso
      cases e : xs.drop i with
      | nil => rw [e] at q; simp only [forLoop, z] at q; exact q
      | cons d t => rw [e] at q; simp only [forLoop, z] at q; exact q
  obtain ⟨h1, h2⟩ := hJ rho st H kk s hst
  by_cases hlt : i < xs.length
  · obtain ⟨hgo, hy⟩ := h2 i xs[i] (List.getElem?_eq_getElem hlt)
    refine .inr ⟨hgo, fun sg H => i + 1 ≤ xs.length ∧ ∃ rho st env, g.Keep r1 H1 rho H ∧ g.Sto rho st H ∧ g.Env rho H env sg ∧ RQ g (forLoop xs p (fun d env st => match store is one d env with | some env' => aj g.tab g.call F x' env' st | none => .bad) (xs.drop (i + 1)) env st) (Bd g rho H D) rho H, fun sg' H' h => ⟨xs.length - (i + 1), by omega, rfl, h.1, h.2⟩, fun x H' y => ?_⟩
    obtain ⟨e2, rx⟩ := hy x H' y
    subst e2
    rw [List.drop_eq_getElem_cons hlt] at q
    simp only [forLoop, hst, if_true] at q
    cases es : store is one xs[i] env with
    | none => rw [es] at q; exact q.elim
    | some env1 =>
      rw [es] at q
      refine Ic es rx n fun sg1 n1 => ?_
      refine ⟨rho, st, env1, s, n1, ?_⟩
      revert q
      simp only
      cases aj g.tab g.call F x' env1 st with
      | bad => exact fun q => q
      | exc c st2 => exact fun q => q
      | ok f st2 =>
        simp only [bo]
        cases f with
        | next env2 => exact fun q sg2 H2 r2 k2 s2 n2 => ⟨hlt, r2, st2, env2, kk.trans k2, s2, n2, RQ.mono k2 q fun f st p => Bd.mono k2 p⟩
        | cont env2 => exact fun q sg2 H2 r2 k2 s2 n2 => ⟨hlt, r2, st2, env2, kk.trans k2, s2, n2, RQ.mono k2 q fun f st p => Bd.mono k2 p⟩
        | brk env2 => exact fun q => q
        | ret d => exact fun q => q
  · have e : i = xs.length := by omega
    subst e
    refine .inl ⟨h1, ?_⟩
    rw [List.drop_eq_nil_of_le (Nat.le_refl _)] at q
    simp only [forLoop, hst, if_true] at q
    exact (show Bd g rho H D (.next env) st from q) sg H rho (.refl _ _) s n
def Es.len : Es → Nat
 | .nil => 0
 | .cons _ r => r.len + 1
theorem Qa {tab : Nat → Ty → Option Bool} {call : Or} : ∀ {es : Es} {env : Env} {st st' : Sto} {ds : List DD.D}, Au tab call es env st = .ok ds st' → ds.length = es.len
 | .nil, env, st, st', ds, h => by simp only [Au] at h; cases h; rfl
 | .cons e r, env, st, st', ds, h => by
  simp only [Au] at h
  cases e1 : Ad tab call e env st with
  | bad => rw [e1] at h; cases h
  | exc c st1 => rw [e1] at h; cases h
  | ok d st1 =>
   rw [e1] at h
   simp only [bo] at h
   cases e2 : Au tab call r env st1 with
   | bad => rw [e2] at h; cases h
   | exc c st2 => rw [e2] at h; cases h
   | ok t st2 =>
    rw [e2] at h
    simp only [bo] at h
    cases h
    simp only [List.length_cons, Qa e2, Es.len]
theorem qb {β : Type} {e : Es} {env : Env} {sg : L2.St} {st : Sto} {rho : List Addr} {H : Hp} {k : List DD.D → Sto → Res β} {ok : β → Sto → Prop} {Q : List V → Hp → Prop} (s : g.Sto rho st H) (n : g.Env rho H env sg)
    (h : RQ g ((Au g.tab g.call e env st).bind k) ok rho H)
    (hk : ∀ d st1 v H1 rho1, d.length = e.len → g.Keep rho H rho1 H1 → g.Sto rho1 st1 H1 → g.Env rho1 H1 env sg → g.RepL rho1 H1 d v → RQ g (k d st1) ok rho1 H1 → Q v H1) : tEs g e sg H Q := by
  refine ⟨rho, st, env, s, n, ?_⟩
  revert h
  cases ee : Au g.tab g.call e env st with
  | ok d st1 => exact fun h v H1 r1 k1 s1 rp => hk d st1 v H1 r1 (Qa ee) k1 s1 (n.mono k1) rp (RQ.mono k1 h fun _ _ x => x)
  | exc c st1 => exact fun h => h
  | bad => exact fun h => h
theorem yj {ds xs : List DD.D} {e : Expr} (h : Ef ds = some xs) (hl : ds.length = 1) : ∃ j : Int, ds = [.int j] ∧ -(2 ^ 62) ≤ j ∧ j < 2 ^ 62 ∧ xs = Fe 0 j.toNat := by
 match ds, hl with
 | [d], _ =>
  cases d with
  | int j =>
   simp only [Ef] at h
   split at h
   · rename_i z; cases h; exact ⟨j, rfl, z.1, z.2, rfl⟩
   · cases h
  | _ => simp [Ef] at h
theorem Ke {pos2 : Pos} {is : List Nat} {tgt e : Expr} {body : List Stmt} {x' : Ss} {e' : E} {p : Pos} (hp : PassesOwn (model X.prog X.w) X.A X.env X.xe) (hc : X.calm = true) (hg : Gl X "range") (hm : X.mg "range" = none) (ha : Sd g X e e') (ht : PG X tgt (tg g.K is true)) (hx : Di g X F body x')
    (he : starEach [e] X.env = [(false, eval e X.env)] := by rfl) (hs : ∀ x, foldedSetIterable (.Call (.Name "range" p) [e] [] pos) X.env x = pure x   := by intro _; rfl) : SdS g X F (.For tgt (.Call (.Name "range" p) [e] [] pos) body [] pos2) (.forR is (.cons e' .nil) x') := dc (Jq hp hc (Ve hg hm (aa ha Ab he) he) ht hx hs) fun D sg H q => by
  obtain ⟨rho, st, env, s, n, q⟩ := q
  simp only [An] at q
  refine qb s n q fun ds st1 vs H1 r1 hl k1 s1 n1 rps q1 => ?_
  split at q1
  · rename_i xs e1
    obtain ⟨j, rfl, j1, j2, rfl⟩ := yj (e := e) e1 hl
    obtain ⟨v, rfl, rv⟩ := Fx rps
    refine ⟨j, by rw [aw.mp rv], j1, j2, ?_⟩
    refine Md (J := Itr 0 j.toNat) (p := none) (fun rho st H _ _ _ => ⟨?_, fun i d hd => ?_⟩) s1 n1 (RQ.mono (.refl _ _) q1 fun f st p => Bd.mono k1 p)
    · show j.toNat ≤ _
      simp [Fe]
    · have hi : i < j.toNat := by
        have := (List.getElem?_eq_some_iff.mp hd).1
        simpa [Fe] using this
      refine ⟨hi, fun x H' y => ⟨y.1, ?_⟩⟩
      have hd' : d = .int (0 + (i : Nat)) := by
        have := (List.getElem?_eq_some_iff.mp hd).2
        simp [Fe] at this
        simp [← this]
      rw [hd', aw]
      exact y.2
  · exact q1.elim
theorem Qb {is : List Nat} {one : Bool} {tgt e : Expr} {body : List Stmt} {x' : Ss} {e' : E} (hK : X.K = g.K) (hp : PassesOwn (model X.prog X.w) X.A X.env X.xe) (hc : X.calm = true) (ha : Sd g X e e') (ht : PG X tgt (tg g.K is one)) (hx : Di g X F body x')
    (hs : ∀ x, foldedSetIterable e X.env x = pure x := by intro _; rfl) : SdS g X F (.For tgt e body [] pos) (.forS is one false e' x') := dc (Jq hp hc (Ob ha) ht hx hs) fun D sg H q => by
  obtain ⟨rho, st, env, s, n, q⟩ := q
  simp only [An] at q
  refine step s n q fun d st1 v H1 r1 k1 s1 n1 rp q1 => ?_
  cases d with
  | loc m =>
    simp only [gr, Bool.false_eq_true, if_false] at q1
    cases el : Az st1 m with
    | none => rw [el] at q1; exact q1.elim
    | some ds =>
      rw [el] at q1
      simp only [Option.map_some] at q1
      obtain ⟨p, vs, hr, sq, rl⟩ := Ei s1 el
      obtain ⟨p2, hr2, rfl⟩ := Bl.mp rp
      rw [hr] at hr2; cases hr2
      refine ⟨p, rfl, ⟨vs, by rw [hK]; exact sq⟩, ?_⟩
      rw [hK]
      refine Md (J := Itl g.K p) (p := some m) (fun rho st H kk s hst => ?_) s1 n1 (RQ.mono (.refl _ _) q1 fun f st p => Bd.mono k1 p)
      have hst : Az st m = some ds := odt hst
      obtain ⟨p3, ws, hr3, sq3, rl3⟩ := Ei s hst
      rw [kk.at hr] at hr3; cases hr3
      refine ⟨⟨ws, sq3, by rw [← rl3.length]; exact Nat.le_refl _⟩, fun i d hd => ?_⟩
      obtain ⟨v, hv, rv⟩ := rl3.get hd
      refine ⟨⟨ws, v, sq3, hv⟩, fun x H' y => ⟨y.1, ?_⟩⟩
      have := y.2 ws sq3
      rw [hv] at this; cases this
      exact rv
  | _ => exact q1.elim
theorem Yj {is : List Nat} {one : Bool} {tgt e : Expr} {body : List Stmt} {x' : Ss} {e' : E} (hK : X.K = g.K) (hp : PassesOwn (model X.prog X.w) X.A X.env X.xe) (hc : X.calm = true) (ha : Sd g X e e') (ht : PG X tgt (tg g.K is one)) (hx : Di g X F body x')
    (hs : ∀ x, foldedSetIterable e X.env x = pure x := by intro _; rfl) : SdS g X F (.For tgt e body [] pos) (.forS is one true e' x') := dc (Jq hp hc (Oc ha) ht hx hs) fun D sg H q => by
  obtain ⟨rho, st, env, s, n, q⟩ := q
  simp only [An] at q
  refine step s n q fun d st1 v H1 r1 k1 s1 n1 rp q1 => ?_
  cases d with
  | tup ds =>
    simp only [gr, if_true] at q1
    obtain ⟨p, vs, rfl, sq, rl⟩ := bz.mp rp
    refine ⟨p, rfl, ⟨vs, by rw [hK]; exact sq⟩, ?_⟩
    rw [hK]
    refine Md (J := Itt g.K p) (p := none) (fun rho st H kk s hst => ?_) s1 n1 (RQ.mono (.refl _ _) q1 fun f st p => Bd.mono k1 p)
    have sq3 := kk.tup p vs sq
    have rl3 := rl.mono kk
    refine ⟨⟨vs, sq3, by rw [← rl3.length]; exact Nat.le_refl _⟩, fun i d hd => ?_⟩
    obtain ⟨v, hv, rv⟩ := rl3.get hd
    refine ⟨⟨vs, v, sq3, hv⟩, fun x H' y => ⟨y.1, ?_⟩⟩
    have := y.2 vs sq3
    rw [hv] at this; cases this
    exact rv
  | _ => simp [gr] at q1; exact q1.elim
theorem qc {apos cpos : Pos} (hK : X.K = g.K) (ho : Sd g X o o') (hv : Sd g X v v') (hbase : attributeBase o "append" X.env (eval o X.env) = eval o X.env := by rfl)
    (hfew : ((backTo cpos (starEach [v] X.env)).all (fun x => !x.1) && (backToKw cpos (keywordEach [] X.env)).all (fun x => x.1.isSome) && decide ([v].length + ([] : List Keyword).length + (if ([] : List Keyword).isEmpty then 0 else 1) < 30)) = true := by rfl)
    (hline : (apos.endLine == cpos.line) = true := by rfl) (hs : starEach [v] X.env = (false, eval v X.env) :: starEach [] X.env := by rfl) : Sd g X (.Call (.Attribute o "append" apos) [v] [] cpos) (.mt .append o' (.cons v' .nil)) :=
  bb (ox PySem.F.plainAttrs_list PySem.F.slot_list_append PySem.F.type_list_append Ox ho (aa hv Ab hs) hbase hfew hline hs rfl) fun sg H Q q => by
    obtain ⟨rho, st, env, s, n, q⟩ := q
    simp only [Ad] at q
    refine step s n q fun d st1 x H1 r1 k1 s1 n1 rp q1 => ?_
    split at q1
    · rename_i hl
      have hl : ja st1 d = true := hl
      cases d with
      | loc m =>
        have hl : ∃ xs, st1[m]? = some (.lst xs) := by
          simp only [ja] at hl
          split at hl
          · rename_i xs e; exact ⟨xs, e⟩
          · cases hl
        obtain ⟨xs, el⟩ := hl
        obtain ⟨p, vs, hr, hH, rl⟩ := Gs s1 el
        obtain ⟨p2, hr2, rfl⟩ := Bl.mp rp
        rw [hr] at hr2; cases hr2
        refine ⟨.inl ⟨rfl, vs, SqL.of hH⟩, ?_⟩
        refine eh s1 n1 q1 fun ds st2 ws H2 r2 k2 s2 n2 rps q2 => ?_
        match ds, q2 with
        | [y], q2 =>
          obtain ⟨w, rfl, rw1⟩ := Fx rps
          simp only [mtD] at q2
          split at q2
          · rename_i zs ez
            split at q2
            · rename_i hz
              obtain ⟨p3, us, hr3, hH3, rl3⟩ := Gs s2 ez
              rw [k2.at hr] at hr3; cases hr3
              have hrep : g.RepL r2 H2 (zs ++ [y]) (us ++ [w]) := rl3.append (by simp only [RepL]; exact ⟨w, [], rfl, rw1, rfl⟩)
              obtain ⟨k3, s3⟩ := s2.wrote (k2.at hr) ez hH3 hrep
              refine ⟨p, us, w, rfl, rfl, hH3, by rw [← rl3.length]; exact hz, ?_⟩
              exact (show ar g rho H Q .non _ from q2) _ _ r2 ((k1.trans k2).trans k3) s3 (dh.mpr rfl)
            · exact q2.elim
          · exact q2.elim
        | [], q2 => exact q2.elim
        | _ :: _ :: _, q2 => exact q2.elim
      | _ => cases hl
    · exact q1.elim
end DD
namespace DD
open PySem PySem.Spec L2
open PyProof.Rows hiding St
variable {g : G} {X : Cx} {a b c : Expr} {a' b' c' : E} {pos : Pos} {rest es : List Expr} {es' : Es} {F : Nat}
abbrev G.with (g : G) (E : XK) : G := { g with xk := E }
theorem yk (h : n = m) : g.Env rho H (List.replicate n none) (List.replicate m none) := ⟨by simp [h], fun i d e => by
 rw [List.getElem?_replicate] at e
 split at e <;> cases e⟩
theorem Yk (h : g.Env rho H env sg) (i : Nat) : g.Env rho H (env.set i none) (sg.set i none) := by
 refine ⟨by rw [List.length_set, List.length_set]; exact h.len, fun j d e => ?_⟩
 by_cases hj : i = j
 · subst hj
   rw [List.getElem?_set] at e
   simp at e
 · rw [List.getElem?_set_ne hj] at e ⊢
   exact h.val j d e
theorem yl {body suite : List Stmt} {b₀ : Stmt} {x n : Str} {np hp : Pos} {i C : Nat} {b' h' : Ss} (hfn : ∀ y, X.fn y = true) (hstk : X.stack = X.env :: X.outer) (hfr : X.env.frame = some X.env.locals) (hex : X.ex = [])
    (hN : X.N.Nodup) (hi : X.N[i]? = some n) (hl : X.env.scope.names.lookup n = some .local) (hg : Gl X x) (hm : X.mg x = some (.ref (g.cls C))) (hx : ∀ k, g.tab k (.o C) = some true → PySem.W.exmOne X.K (.ref (g.cls k)) (.ref (g.cls C)) = some true)
    (hb : ∀ (pn : List (Addr × Obj)) (E0 : XK) (xe0 : Value → Shared → Prop), PassesOwn (model X.prog X.w) X.A X.env xe0 → Passes (CXd X.prog X.w) (Cx.tr X pn xe0) E0 → Di (g.with E0) (Cx.tr X pn xe0) F body b')
    (hs : ∀ a, Di (g.with fun _ _ _ => False) (Cx.hd X a) F (b₀ :: suite) h') (hd : (x == ("__debug__" : Str)) = false := by decide) :
    SdS g X F (.Try body [.ExceptHandler (some (.Name x np)) (some n) (b₀ :: suite) hp] [] [] pos) (.tryS b' C i h') :=
  dc (xu (Cx' := g.cls C) (tb := fun E0 => tSs (g.with E0) F b') (ts := tSs (g.with fun _ _ _ => False) F h') hfn hstk hfr hex hN hi hl hg hm hb hs hd) fun D sg H q hsg => by
    obtain ⟨rho, st, env, s, n, q⟩ := q
    simp only [An] at q
    have hlen : env.length = X.N.length := n.len.trans hsg
    refine ⟨fun cv _ H' => ∃ k st' rho', cv = .ref (g.cls k) ∧ aj g.tab g.call F b' env st = .exc k st' ∧ g.Keep rho H rho' H' ∧ g.Sto rho' st' H', fun C' H' hE => ?_, rho, st, env, s, n, ?_⟩
    · obtain ⟨k, st', rho', e1, e2, kk, ss⟩ := hE
      cases e1
      rw [e2] at q
      simp only at q
      split at q
      · rename_i ht
        refine ⟨hx k ht, fun a ha => ?_⟩
        split at q
        · rename_i hi'
          obtain ⟨k2, s2⟩ := ss.laid ha (o := .ext (Ib a (.ref (g.cls k)))) (c := .exn k) cj
          refine ⟨rho' ++ [a], st' ++ [.exn k], blank env i (.loc st'.length), s2, ?_, ?_⟩
          · unfold blank
            exact (yk hlen).set i (Bl.mpr ⟨a, by rw [← ss.len]; simp, rfl⟩)
          · revert q
            cases aj g.tab g.call F h' (blank env i (.loc st'.length)) (st' ++ [.exn k]) with
            | bad => exact fun q => q
            | exc c st2 => exact fun q => q.elim
            | ok f st2 =>
              cases f with
              | next env2 => exact fun q sg2 H2 r2 k3 s3 n3 => (show Bd g rho H D (.next (env2.set i none)) st2 from q) _ H2 r2 ((kk.trans k2).trans k3) s3 (Yk n3 i)
              | ret d => exact fun q v H2 r2 k3 s3 r3 => (show Bd g rho H D (.ret d) st2 from q) v H2 r2 ((kk.trans k2).trans k3) s3 r3
              | brk env2 => exact fun q => q.elim
              | cont env2 => exact fun q => q.elim
        · exact q.elim
      · exact q.elim
    · revert q
      cases ee : aj g.tab g.call F b' env st with
      | bad => exact fun q => q
      | ok f st1 => exact fun q => q
      | exc k st1 => exact fun q H' rho' kk ss => ⟨k, st1, rho', rfl, rfl, kk, ss⟩
structure FunD (K : PySem.W.Frag) (x qual : Str) (st : Stmt) (f : Addr) (fd : FuncData) : Prop where
 ex : ∃ (oc : Value) (od : Option Addr) (dV kV doc pm : Value) (an : Option Addr) (cdv ct : Value) (osl : Array (Option Value)),
  fd = PySem.W.fnOf x qual (Ia st) (Fv st) (au st) dV kV doc pm an cdv ct ∧ K.lookup f = some ⟨oc, od, .func fd, osl⟩ ∧ PySem.W.codeIn K cdv qual = true
 kp : PySem.W.keepIn K (.ref f) = true
theorem Bb {K : PySem.W.Frag} {x qual : Str} {st : Stmt} {f : Addr} {oc : Value} {od an : Option Addr} {osl : Array (Option Value)} {dV kV doc pm cdv ct : Value} (l : K.lookup f = some ⟨oc, od, .func (PySem.W.fnOf x qual (Ia st) (Fv st) (au st) dV kV doc pm an cdv ct), osl⟩)
    (c : PySem.W.codeIn K cdv qual = true) (k : PySem.W.keepIn K (.ref f) = true) : FunD K x qual st f (PySem.W.fnOf x qual (Ia st) (Fv st) (au st) dV kV doc pm an cdv ct) := ⟨⟨oc, od, dV, kV, doc, pm, an, cdv, ct, osl, rfl, l, c⟩, k⟩
section
variable {P : Program} {w : World} {K : PySem.W.Frag} {mg : Str → Option Value} {base : Heap} {cls : CW} {tab : Nat → Ty → Option Bool} {fns : List Fn} {FF : Nat}
abbrev cxD (P : Program) (w : World) (K : PySem.W.Frag) (mg : Str → Option Value) (base : Heap) (N : List Str) (qual : Str) (st : Stmt) (f : Addr) (cdv : Value) (A : Around) (outer : List PySem.Env) (s : Shared) (H : Hp) (E : XK) : Cx := dw (CXd P w) P w K mg base N qual (au st) f cdv A outer s H E
theorem Yl : ∀ {ds : List D} {vs : List V}, RepL K rho H ds vs → ∀ (i : Nat) (d : D), (ds.map some)[i]? = some (some d) → ∃ v, (vs.map some)[i]? = some (some v) ∧ Rep K rho H d v := fun {ds vs} r i d e => by
 rw [List.getElem?_map] at e
 cases z : ds[i]? with
 | none => rw [z] at e; cases e
 | some y =>
  rw [z] at e; cases e
  obtain ⟨v, h1, h2⟩ := r.get z
  exact ⟨v, by rw [List.getElem?_map, h1]; rfl, h2⟩
theorem bc {x qual : Str} {st : Stmt} {f : Addr} {fd : FuncData} {N ps : List Str} {m n fi : Nat} {body' : Ss} (F : FunD K x qual st f fd) (S : FnScope N ps (au st)) (hf : fns[fi]? = some ⟨ps.length, N.length, body'⟩)
    (hb : ∀ (cdv : Value) (A : Around) (outer : List PySem.Env) (s : Shared) (H : Hp) (E : XK), Room m (A.deeper (envOfC qual (au st) s.heap.objs.size f cdv)) → Di ⟨K, cls, tab, Bw tab fns FF n, E⟩ (cxD P w K mg base N qual st f cdv A outer s H E) FF (Fv st) body') :
    FnOk P w K mg base (CXd P w) (m + 1) f fd ps (spD K cls ps.length (Bw tab fns FF (n + 1) fi)) := by
  obtain ⟨oc, od, dV, kV, doc, pm, an, cdv, ct, osl, rfl, lk, hcd⟩ := F.ex
  refine Om lk hcd S (fun vs H Q E h => h.1) fun A outer s H vs Q E hr hsp => ?_
  obtain ⟨hl, rho, st1, ds, s1, rl, q⟩ := hsp
  refine ⟨_, hb cdv A outer s H E hr, ?_⟩
  have hdl := rl.length
  have hpn : ps.length ≤ N.length := by have := congrArg List.length S.pre; rw [List.length_take] at this; omega
  have e0 : Bw tab fns FF (n + 1) fi ds st1 = fin (aj tab (Bw tab fns FF n) FF body' (ds.map some ++ List.replicate (N.length - ps.length) none) st1) := by
    show (match fns[fi]? with
      | some fn => if ds.length = fn.np ∧ fn.np ≤ fn.nl then fin (aj tab (Bw tab fns FF n) FF fn.body (ds.map some ++ List.replicate (fn.nl - fn.np) none) st1) else .bad
      | none => .bad) = _
    rw [hf]
    simp only
    rw [if_pos ⟨by omega, hpn⟩]
  rw [e0] at q
  refine ⟨rho, st1, ds.map some ++ List.replicate (N.length - ps.length) none, s1, ⟨?_, fun i d e => ?_⟩, ?_⟩
  · unfold L2.start
    simp [hdl, hl]
  · unfold L2.start
    by_cases hi : i < ds.length
    · rw [List.getElem?_append_left (by simpa using hi)] at e
      obtain ⟨v, h1, h2⟩ := Yl rl i d e
      exact ⟨v, by rw [List.getElem?_append_left (by simp; omega)]; exact h1, h2⟩
    · rw [List.getElem?_append_right (by simpa using hi), List.getElem?_replicate] at e
      split at e <;> cases e
  · revert q
    unfold fin
    cases aj tab (Bw tab fns FF n) FF body' (ds.map some ++ List.replicate (N.length - ps.length) none) st1 with
    | bad => exact fun q => q
    | exc c st2 => exact fun q => q
    | ok f st2 =>
      simp only [bo]
      cases f with
      | next env2 => exact fun q sg H' rho' k s' n' => q _ H' rho' k s' (by simp [Rep])
      | ret d => exact fun q => q
      | brk env2 => exact fun q => q.elim
      | cont env2 => exact fun q => q.elim
theorem Bc : FnOk P w K mg base (CXd P w) 0 f fd ps (spD K cls ps.length (Bw tab fns FF 0 fi)) := by
 refine ⟨fun vs H Q E h => h.1, fun A outer s H args us vs Q E _ _ _ _ h => ?_⟩
 obtain ⟨_, rho, st1, ds, s1, rl, q⟩ := h
 exact q.elim
theorem Ai (hf : fns[fi]? = some ⟨np, nl, body'⟩) : ∀ ds st, ds.length ≠ np → Bw tab fns FF n fi ds st = .bad := fun ds st h => by
 cases n with
 | zero => rfl
 | succ n =>
  show (match fns[fi]? with
   | some fn => if ds.length = fn.np ∧ fn.np ≤ fn.nl then fin (aj tab (Bw tab fns FF n) FF fn.body (ds.map some ++ List.replicate (fn.nl - fn.np) none) st) else .bad
   | none => .bad) = _
  rw [hf]
  simp only
  rw [if_neg (fun z => h z.1)]
end
end DD
namespace DD
open PySem PySem.Spec L2
variable {g : G} {X : Cx} {a b c : Expr} {a' b' c' : E} {pos : Pos} {rest es : List Expr} {es' : Es} {F : Nat}
def Fi : Cm → CmpOp
 | .eq => .Eq | .ne => .NotEq | .lt => .Lt | .le => .LtE | .gt => .Gt | .ge => .GtE | .isN => .Is | .notN => .IsNot | .inL => .In | .notIn => .NotIn
def rCm (g : G) (c : Cm) : R2 := fun x y H Q => ∃ rho st a b, g.Sto rho st H ∧ g.Rep rho H a x ∧ g.Rep rho H b y ∧ RQ g (cmD c a b st) (ar g rho H Q) rho H
theorem ym {rho : List Addr} {H : Hp} {d : D} {x : V} {v : Value} {c : Bool} {A : Around} {E : Value → Shared → Prop} {s : Shared} {M : Model} {Q : Value → Shared → Prop} (r : g.Rep rho H d x) (rx : RelV x v) (h : Q (.bool (decide (d = D.bl c))) s) : wpAny M A (compareOp .Is v (.bool c)) Q E s := by
 cases d with
 | non => cases dh.mp r; cases rx; exact wpAny_pure h
 | bl z => cases bh.mp r; cases rx; cases z <;> cases c <;> exact wpAny_pure h
 | int i => cases aw.mp r; obtain ⟨t, rfl⟩ := rx; exact wpAny_pure h
 | str z => cases bu.mp r; obtain ⟨t, rfl⟩ := rx; exact wpAny_pure h
 | tup ds => obtain ⟨q, vs, rfl, _⟩ := bz.mp r; cases rx; exact wpAny_pure h
 | loc n => obtain ⟨q, _, rfl⟩ := Bl.mp r; cases rx; exact wpAny_pure h
theorem Ym (r : g.Rep rho H d v) : decide (v = V.non) = decide (d = D.non) := by
 cases d with
 | non => cases dh.mp r; rfl
 | bl b => cases bh.mp r; simp
 | int b => cases aw.mp r; simp
 | str b => cases bu.mp r; simp
 | tup ds => obtain ⟨_, _, rfl, _⟩ := bz.mp r; simp
 | loc n => obtain ⟨_, _, rfl⟩ := Bl.mp r; simp
theorem Jc (hK : X.K = g.K) (hw : g.cls.w = X.w) (hu : X.A.units + 64 < cLine) (c : Cm) (hc : c = .le ∨ c = .isN) : OpR X (compareOp (Fi c)) (rCm g c) := by
 rintro pins s sg H x y v u Q I rx ry ⟨rho, st, a, b, S, r1, r2, q⟩
 rcases hc with rfl | rfl
 · refine Vj pins s sg H x y v u Q I rx ry ?_
   cases a with
   | int i =>
    cases b with
    | int j => exact ⟨i, j, aw.mp r1, aw.mp r2, q _ H rho (.refl _ _) S (bh.mpr rfl)⟩
    | _ => exact q.elim
   | _ => exact q.elim
 · simp only [cmD] at q
   cases b with
   | non => exact Vl pins s sg H x y v u Q I rx ry ⟨dh.mp r2, by rw [Ym r1]; exact (show ar g rho H Q (.bl _) st from q) _ H rho (.refl _ _) S (bh.mpr rfl)⟩
   | bl c =>
    cases bh.mp r2
    cases ry
    exact ym r1 rx ⟨.bl _, H, I, rfl, (show ar g rho H Q (.bl _) st from q) _ H rho (.refl _ _) S (bh.mpr rfl)⟩
   | _ => exact q.elim
theorem yn (q : tE g (.cm k a' b') sg H Q) : tOp (rCm g k) (tE g a') (tE g b') sg H Q := by
 obtain ⟨rho, st, env, s, n, q⟩ := q
 simp only [Ad] at q
 refine two (k := cmD k) ?_ s n q
 intro x y u v st rho H Q s rx ry q
 exact ⟨rho, st, x, y, s, rx, ry, q⟩
theorem Qc (hK : X.K = g.K) (hw : g.cls.w = X.w) (hu : X.A.units + 64 < cLine) (ha : Sd g X a a') (hb : Sd g X b b') : SdT g X (.Compare a [.Is] [b] pos) (.cm .isN a' b') := Eh (gm (Jc hK hw hu .isN (.inr rfl)) ha hb (Fu _)) fun sg H Q q => yn (cmT q)
theorem qd {c1 c2 : Cm} {sg : L2.St} {H : Hp} {Q : VK} (q : tE g (.chn c1 c2 a' b' c') sg H Q) : Ln (rCm g c1) (rCm g c2) (tE g a') (tE g b') (tE g c') sg H Q := by
 obtain ⟨rho, st, env, s, n, q⟩ := q
 simp only [Ad] at q
 refine step s n q fun x st1 u H1 r1 k1 s1 n1 rx q1 => ?_
 refine step s1 n1 q1 fun y st2 v H2 r2 k2 s2 n2 ry q2 => ?_
 refine ⟨r2, st2, x, y, s2, rx.mono k2, ry, ?_⟩
 revert q2
 cases e : cmD c1 x y st2 with
 | bad => exact fun q => q
 | exc cc st3 => exact fun q => q
 | ok d st3 =>
  obtain ⟨z, rfl⟩ := Ka e
  simp only [bo]
  intro q2 w H3 r3 k3 s3 rw3
  refine ⟨z, bh.mp rw3, ?_⟩
  cases z with
  | false => exact gp ((show ar g rho H Q (.bl false) st3 from q2) _ H3 r3 ((k1.trans k2).trans k3) s3 (bh.mpr rfl))
  | true =>
   refine Gp (step s3 (n2.mono k3) (RQ.mono k3 q2 fun _ _ p => p) fun t st4 w4 H4 r4 k4 s4 n4 rt q4 => ?_)
   exact ⟨r4, st4, y, t, s4, (ry.mono k3).mono k4, rt, RQ.mono (.refl _ _) q4 fun _ _ p => p.mono (((k1.trans k2).trans k3).trans k4)⟩
theorem Yn (q : tT g (.chn c1 c2 a' b' c') sg H Q) : tE g (.chn c1 c2 a' b' c') sg H (fun x H' => ∃ z, x = .bl z ∧ Q z H') := by
 obtain ⟨rho, st, env, s, n, q⟩ := q
 refine ⟨rho, st, env, s, n, ?_⟩
 simp only [aq] at q
 simp only [Ad]
 revert q
 cases Ad g.tab g.call a' env st with
 | bad => exact fun q => q
 | exc c st1 => exact fun q => q
 | ok x st1 =>
  simp only [bo]
  cases Ad g.tab g.call b' env st1 with
  | bad => exact fun q => q
  | exc c st2 => exact fun q => q
  | ok y st2 =>
   simp only [bo]
   cases e : cmD c1 x y st2 with
   | bad => exact fun q => q
   | exc c st3 => exact fun q => q
   | ok d st3 =>
    obtain ⟨z, rfl⟩ := Ka e
    simp only [bo]
    cases z with
    | false =>
     intro q v H' rho' k1 s1 r1
     exact ⟨false, bh.mp r1, (show da g rho H Q false st3 from q) H' rho' k1 s1⟩
    | true =>
     simp only
     cases Ad g.tab g.call c' env st3 with
     | bad => exact fun q => q
     | exc c st4 => exact fun q => q
     | ok t st4 =>
      simp only [bo]
      cases e2 : cmD c2 y t st4 with
      | bad => exact fun q => q
      | exc c st5 => exact fun q => q
      | ok d st5 =>
       obtain ⟨z, rfl⟩ := Ka e2
       simp only [bo]
       intro q v H' rho' k1 s1 r1
       exact ⟨z, bh.mp r1, (show da g rho H Q z st5 from q) H' rho' k1 s1⟩
theorem Qd (c1 c2 : Cm) (hK : X.K = g.K) (hw : g.cls.w = X.w) (hu : X.A.units + 64 < cLine) (ha : Sd g X a a') (hb : Sd g X b b') (hc : Sd g X c c') (hm : lastMarks [Fi c1, Fi c2] [b, c] = false := by with_unfolding_all rfl) (h1 : c1 = .le := by rfl) (h2 : c2 = .le := by rfl) : Sd g X (.Compare a [Fi c1, Fi c2] [b, c] pos) (.chn c1 c2 a' b' c') :=
 bb (Vm (Jc hK hw hu c1 (.inl h1)) (Jc hK hw hu c2 (.inl h2)) ha hb hc hm) fun sg H Q q => qd q
theorem yo (c1 c2 : Cm) (hK : X.K = g.K) (hw : g.cls.w = X.w) (hu : X.A.units + 64 < cLine) (ha : Sd g X a a') (hb : Sd g X b b') (hc : Sd g X c c') (hm : lastMarks [Fi c1, Fi c2] [b, c] = false := by with_unfolding_all rfl) (h1 : c1 = .le := by rfl) (h2 : c2 = .le := by rfl) : SdT g X (.Compare a [Fi c1, Fi c2] [b, c] pos) (.chn c1 c2 a' b' c') :=
 Eh (vn (Jc hK hw hu c1 (.inl h1)) (Jc hK hw hu c2 (.inl h2)) ha hb hc hm) fun sg H Q q => qd (Yn q)
variable {g : G} {X : Cx} {a b c : Expr} {a' b' c' : E} {pos : Pos} {rest es : List Expr} {es' : Es} {F : Nat}
theorem RepL.drop : ∀ {ds : List D} {vs : List V} (n : Nat), g.RepL rho H ds vs → g.RepL rho H (ds.drop n) (vs.drop n)
 | ds, vs, 0, r => by simpa using r
 | [], vs, n + 1, r => by simp only [DD.RepL] at r; subst r; simp [DD.RepL]
 | d :: t, vs, n + 1, r => by
  simp only [DD.RepL] at r
  obtain ⟨v, w, rfl, _, r2⟩ := r
  simpa using RepL.drop n r2
theorem RepL.take : ∀ {ds : List D} {vs : List V} (n : Nat), g.RepL rho H ds vs → g.RepL rho H (ds.take n) (vs.take n)
 | ds, vs, 0, r => by simp [DD.RepL]
 | [], vs, n + 1, r => by simp only [DD.RepL] at r; subst r; simp [DD.RepL]
 | d :: t, vs, n + 1, r => by
  simp only [DD.RepL] at r
  obtain ⟨v, w, rfl, r1, r2⟩ := r
  simp only [List.take_succ_cons, DD.RepL]
  exact ⟨v, _, rfl, r1, RepL.take n r2⟩
theorem RepL.cut (r : g.RepL rho H ds vs) (lo hi : Option Int) : g.RepL rho H (cutD ds lo hi) (Dn vs lo hi) := by
 unfold cutD Dn
 rw [r.length]
 exact RepL.take _ (RepL.drop _ r)
def qe (K : PySem.W.Frag) : V → Option Int → Option Int → Hp → VK → Prop := fun x lo hi H Q => ∃ a xs, x = .ref a ∧ SqT K H a xs ∧ HT.sIx xs.length 0 lo = 0 ∧ HT.sIx xs.length xs.length hi = xs.length ∧ Q x H
section
open PyProof.Rows hiding St RelV
open PySem.SeqAt
open PySem.MeetsSeq PySem.MeetsSeq2 PySem.MeetsSeq3
theorem Yo {prog : Program} {w : World} {A : Around} {E : Value → Shared → Prop} {s : Shared} {t sl : Addr} {items : Array Value} {vl vu : Value} {lo hi : Option Int} {Q : Value → Shared → Prop} (ht : IsTup s.heap t items) (hs : s.heap.IsSliceOf sl vl vu .none) (pl : IsPart vl lo) (pu : IsPart vu hi)
    (h1 : HT.sIx items.size 0 lo = 0) (h2 : HT.sIx items.size items.size hi = items.size) (h : Q (.ref t) s) : wpAny (model prog w) A (getItem (.ref t) (.ref sl)) Q E s := by
  obtain ⟨os, hos, hcs, hds⟩ := id hs
  have hTs : s.TypeIs (.ref sl) "slice" := ⟨os, hos, hcs⟩
  unfold getItem
  try with_reducible refine wpAny_holding ?_
  first | refine wpAny_bind (wpAny_pure ?_) | skip
  refine wpAny_bind (wpAny_sequenceKey ht.typeIs (by decide) ?_)
  refine wpAny_bind (wpAny_callSpecial?_slot (name := Str.ofString "__getitem__") ht.typeIs PyProof.Rows.slot_tuple_getitem
    (wpAny_call_entry PyProof.Rows.slot_tuple_getitem ht.typeIs entry_tuple_getitem ?_ (args_tuple_getitem _ _)))
  show wpAny _ _ (Builtin.Tuple.tupleItemsOf (.ref t) >>= _) _ _ s
  refine wpAny_bind (tupleItemsOf_ ht ?_)
  refine wpAny_bind (wpAny_typeOf hTs ?_)
  rw [if_pos (by decide)]
  refine wpAny_bind (HT.Oq hs pl pu ?_)
  show wpAny _ _ (if (((HT.sIx items.size 0 lo : Nat) : Int) == 0 && (1 : Int) == 1 && (HT.sIx items.size items.size hi - HT.sIx items.size 0 lo) == items.size) = true then _ else _) _ _ s
  rw [if_pos (by rw [h1, h2]; simp)]
  refine wpAny_bind (m := Builtin.Tuple.tupleIsExact (.ref t)) ?_
  unfold Builtin.Tuple.tupleIsExact
  refine wpAny_bind (wpAny_typeOf ht.typeIs (wpAny_pure ?_))
  rw [if_pos (by decide)]
  exact wpAny_bind (wpAny_rule (wpAny_pure ⟨_, rfl, wpAny_pure h⟩))
end
theorem yp : SlR X (qe X.K) := by
 intro pins s sg H x v vl vu lo hi sl Q I rx hs pl pu h
 obtain ⟨a, xs, rfl, hx, h1, h2, q⟩ := h
 cases rx
 obtain ⟨its, r, ht, hz⟩ := I.tuple hx
 have hlen : its.toArray.size = xs.length := by rw [List.size_toArray]; exact r.length.symm
 exact ⟨"tuple", _, PyProof.Rows.slot_tuple_getitem.lookup, ht.typeIs, Yo ht hs pl pu (by rw [hlen]; exact h1) (by rw [hlen]; exact h2) ⟨.ref a, H, I, rfl, q⟩⟩
def ju (K : PySem.W.Frag) : V → Option Int → Option Int → Hp → VK → Prop := fun x lo hi H Q => ∃ a xs, x = .ref a ∧ SqL K H a xs ∧ ∀ p, H p = none → Q (.ref p) (upd H p (.lst (Dn xs lo hi)))
theorem Yp (its : List Value) (lo hi : Option Int) : slicePick its.toArray lo hi none = ((its.drop (HT.sIx its.length 0 lo)).take (HT.sIx its.length its.length hi - HT.sIx its.length 0 lo)).toArray := by
 have c : ∀ (n d : Nat) (o : Option Int), o.elim d (clipAt n) = HT.sIx n d o := fun n d o => by
  cases o with
  | none => rfl
  | some v =>
   show clipAt n v = if v < 0 then (v + (n : Int)).toNat else min v.toNat n
   unfold clipAt
   split <;> omega
 rw [slicePick_plain, c, c]
 simp
theorem Ow : SlR X (ju X.K) := by
 intro pins s sg H x v vl vu lo hi sl Q I rx hs pl pu h
 obtain ⟨a, xs, rfl, hx, q⟩ := h
 cases rx
 obtain ⟨its, r, hl, hz⟩ := I.list hx
 have hlen := r.length
 refine ⟨"list", _, slot_list_getitem.lookup, hl.isList.typeIs, ?_⟩
 refine wpAny_getItem_list_slice hl.isList hs pl pu .none (by simp) ?_ (by rw [List.size_toArray, ← hlen]; exact hz)
 rw [Yp]
 refine ⟨.ref s.heap.objs.size, _, I.lnew (t' := s.toks) (ys := Dn xs lo hi) ?_ (Nat.le_trans (lr xs lo hi) hz), rfl, q _ (I.hok.fresh (Nat.le_refl _))⟩
 unfold Dn
 rw [hlen]
 exact (r.drop _).take _
variable {g : G} {X : Cx} {a b c : Expr} {a' b' c' : E} {pos p2 : Pos} {rest es : List Expr} {es' : Es} {F : Nat}
theorem bind_assoc {α β γ : Type} (r : Res α) (f : α → Sto → Res β) (k : β → Sto → Res γ) : (r.bind f).bind k = r.bind fun a st => (f a st).bind k := by cases r <;> rfl
def rSl (K : PySem.W.Frag) : V → Option Int → Option Int → Hp → VK → Prop := fun x lo hi H Q => ju K x lo hi H Q ∨ ou K x lo hi H Q ∨ qe K x lo hi H Q
theorem Qe : SlR X (rSl X.K) := Ow.or (Wn.or yp)
theorem qf (hK : X.K = g.K) (hp : Jw k ds = some (lo, hi)) (s : g.Sto rho st H) (rx : g.Rep rho H x v)
    (q : RQ g (slD k x ds st) (ar g rho H Q) rho H) : rSl X.K v lo hi H Q := by
  unfold slD at q
  rw [hp] at q
  simp only at q
  cases x with
  | tup xs =>
    have q : ar g rho H Q (.tup (cutD xs lo hi)) st := q
    obtain ⟨p, vs, rfl, sq, rl⟩ := bz.mp rx
    have sq' : SqT X.K H p vs := by rw [hK]; exact sq
    by_cases w : HT.sIx vs.length 0 lo = 0 ∧ HT.sIx vs.length vs.length hi = vs.length
    · refine .inr (.inr ⟨p, vs, rfl, sq', w.1, w.2, q _ H rho (.refl _ _) s (bz.mpr ⟨p, vs, rfl, sq, ?_⟩)⟩)
      have e : cutD xs lo hi = xs := by
        unfold cutD
        rw [rl.length, w.1, w.2, List.drop_zero, Nat.sub_zero, ← rl.length, List.take_length]
      rw [e]; exact rl
    · refine .inr (.inl ⟨p, vs, rfl, sq', w, fun l hl => ?_⟩)
      have e := ff hl (.tup (Dn vs lo hi))
      exact q (.ref l) _ rho (bg.keep e rho) (s.same e) (bz.mpr ⟨l, _, rfl, SqT.of cj, (RepL.cut rl lo hi).mono (bg.keep e rho)⟩)
  | loc n =>
    simp only at q
    split at q
    · rename_i xs e
      obtain ⟨p, vs, h1, sq, rl⟩ := Ei s e
      obtain ⟨p2, h2, rfl⟩ := Bl.mp rx
      rw [h1] at h2; cases h2
      exact .inl ⟨p, vs, rfl, by rw [hK]; exact sq, fun l hl => Jx s (RepL.cut rl lo hi) hl q⟩
    · exact q.elim
  | _ => exact q.elim
theorem me (hK : X.K = g.K) (ha : Sd g X a a') (hb : Sd g X b b') : Sd g X (.Subscript a (.Slice (some b) none none p2) pos) (.sl 1 a' (.cons b' .nil)) := bb (Ot Qe ha (Lq hb) Wm) fun sg H Q q => by
 obtain ⟨rho, st, env, s, n, q⟩ := q
 simp only [Ad, Eg, bo, bind_assoc] at q
 refine step s n q fun x st1 v H1 r1 k1 s1 n1 rx q1 => ?_
 refine step s1 n1 q1 fun y st2 u H2 r2 k2 s2 n2 ry q2 => ?_
 cases y with
 | int i => exact ⟨i, aw.mp ry, qf hK (k := 1) (ds := [.int i]) rfl s2 (rx.mono k2) (RQ.mono (.refl _ _) q2 fun _ _ p => p.mono (k1.trans k2))⟩
 | _ => exact q2.elim
theorem yq (hK : X.K = g.K) (ha : Sd g X a a') (hb : Sd g X b b') (hc : Sd g X c c') : Sd g X (.Subscript a (.Slice (some b) (some c) none p2) pos) (.sl 3 a' (.cons b' (.cons c' .nil))) := bb (Ot Qe ha (Lq hb) (Lq hc)) fun sg H Q q => by
 obtain ⟨rho, st, env, s, n, q⟩ := q
 simp only [Ad, Eg, bo, bind_assoc] at q
 refine step s n q fun x st1 v H1 r1 k1 s1 n1 rx q1 => ?_
 refine step s1 n1 q1 fun y st2 u H2 r2 k2 s2 n2 ry q2 => ?_
 cases y with
 | int i =>
  simp only [bind_assoc] at q2
  refine ⟨i, aw.mp ry, step s2 n2 q2 fun z st3 w H3 r3 k3 s3 n3 rz q3 => ?_⟩
  cases z with
  | int j => exact ⟨j, aw.mp rz, qf hK (k := 3) (ds := [.int i, .int j]) rfl s3 ((rx.mono k2).mono k3) (RQ.mono (.refl _ _) q3 fun _ _ p => p.mono ((k1.trans k2).trans k3))⟩
  | _ => exact q3.elim
 | _ => exact q2.elim
theorem Yq (h : opD o (.int i) (.int j) st = .ok z st') : ∃ k, z = .int k ∧ st' = st := by
 cases o <;> simp only [opD] at h <;> (try split at h) <;> first | (cases h; exact ⟨_, rfl, rfl⟩) | cases h
theorem yr : PIp X .Mult (fun x y H Q => ∃ i j, x = .int i ∧ y = .int j ∧ fw i j ∧ Q (.int (i * j)) H) := by
 rintro pins s sg H x y u v Q I rx ry ⟨i, j, rfl, rfl, hm, q⟩
 obtain ⟨t, rfl⟩ := (show ∃ t, u = Value.int i t from rx)
 obtain ⟨t', rfl⟩ := (show ∃ t', v = Value.int j t' from ry)
 exact PyProof.Rows.imul_int ⟨.int (i * j), H, I.tok _, ⟨_, rfl⟩, q⟩ hm.ok
theorem Yr {i : Nat} {o : Op} {r : TIp} {sg : L2.St} {H : Hp} {D : Ends} (hr : ∀ x y H Q, (∃ k, opD o (.int x) (.int y) [] = .ok (.int k) [] ∧ Q (.int k) H) → r (.int x) (.int y) H Q)
    (hst : ∀ x y st, opD o (.int x) (.int y) st = match opD o (.int x) (.int y) [] with | .ok z _ => .ok z st | .exc c _ => .exc c st | .bad => .bad)
    (q : tS g F (.aug i o a') D sg H) : Oa i (tE g a') r D sg H := by
  obtain ⟨rho, st, env, s, n, q⟩ := q
  simp only [An] at q
  cases e : cz env i with
  | none => rw [e] at q; exact q.elim
  | some d =>
    rw [e] at q
    cases d with
    | int x =>
      simp only at q
      have e' : env[i]? = some (some (.int x)) := by
        unfold cz at e
        cases z : env[i]? with
        | none => rw [z] at e; cases e
        | some o => rw [z] at e; cases o with
          | none => cases e
          | some y => cases e; rfl
      obtain ⟨v, e1, r1⟩ := n.val i _ e'
      cases aw.mp r1
      refine ⟨_, e1, step s n q fun y st1 w H1 r2 k1 s1 n1 ry q1 => ?_⟩
      cases y with
      | int j =>
        cases aw.mp ry
        simp only at q1
        refine hr x j H1 _ ?_
        rw [hst] at q1
        cases ez : opD o (.int x) (.int j) [] with
        | bad => rw [ez] at q1; exact q1.elim
        | exc c t => exfalso; cases o <;> simp only [opD] at ez <;> (try split at ez) <;> cases ez
        | ok z t =>
          rw [ez] at q1
          obtain ⟨k, rfl, rfl⟩ := Yq ez
          refine ⟨k, rfl, ?_⟩
          simp only [bo] at q1
          split at q1
          · exact (show Bd g rho H D (.next _) st1 from q1) _ H1 r2 k1 s1 (n1.set i (aw.mpr rfl))
          · exact q1.elim
      | _ => exact q1.elim
    | _ => exact q.elim
theorem Ys {i : Nat} {x : Str} {pt : Pos} (hN : X.N.Nodup) (hi : X.N[i]? = some x) (hx : Loc X.env.scope x) (ha : Sd g X a a') (hf : X.fn x = true ∨ X.env.scope.names.lookup x = some .local := by first | exact .inl rfl | exact .inr rfl | assumption) : SdS g X F (.AugAssign (.Name x pt) .Mult a pos) (.aug i .mul a') :=
 dc (Uz hN hi hx ha yr hf) fun D sg H q => Yr (fun x y H Q ⟨k, e, q⟩ => by
  simp only [opD] at e
  split at e
  · rename_i h; cases e; exact ⟨x, y, rfl, rfl, h, q⟩
  · cases e) (fun x y st => by simp only [opD]; split <;> rfl) q
theorem Me {rho : List Addr} {st : Sto} {H : Hp} {n k : Nat} {fs : List (Str × D)} (s : g.Sto rho st H) (h : st[n]? = some (.ins k fs)) : ∃ p dx ws, rho[n]? = some p ∧ H p = some (.ins (g.cls k) dx ws) ∧ ws.length = fs.length ∧ Ff g.K rho H fs ws := by
 have hl : n < rho.length := by rw [s.len]; exact (List.getElem?_eq_some_iff.mp h).1
 obtain ⟨dx, ws, h1, h2, h3⟩ := s.cells n rho[n] _ (List.getElem?_eq_getElem hl) h
 exact ⟨_, dx, ws, List.getElem?_eq_getElem hl, h1, h2, h3⟩
theorem yt (r : Ff g.K rho H fs ws) (h : fs.lookup f = some d) : ∃ v, ws.lookup f = some v ∧ g.Rep rho H d v := by
 have q := r f
 rw [h] at q
 cases e : ws.lookup f with
 | none => rw [e] at q; exact q.elim
 | some v => rw [e] at q; exact ⟨v, rfl, q⟩
theorem Yt (r : Ff g.K rho H fs ws) (h : fs.lookup f = none) : ws.lookup f = none := by
 have q := r f
 rw [h] at q
 cases e : ws.lookup f with
 | none => rfl
 | some v => rw [e] at q; exact q.elim
theorem kf {f : Str} {k : Nat} (hcl : Cls X.K (g.cls k)) (hna : cu X.K (g.cls k) f) (ha : Sd g X a a') (hb : attributeBase a f X.env (eval a X.env) = eval a X.env := by rfl) : Sd g X (.Attribute a f pos) (.fld k a' f) := bb (vy ha hb) fun sg H Q q => by
 obtain ⟨rho, st, env, s, n, q⟩ := q
 simp only [Ad] at q
 refine step s n q fun x st1 v H1 r1 k1 s1 n1 rx q1 => ?_
 cases x with
 | loc m =>
  simp only at q1
  split at q1
  · rename_i k' fs e
    split at q1
    · rename_i d ed
      split at q1
      · rename_i hk
        subst hk
        obtain ⟨p, dx, ws, h1, h2, _, h3⟩ := Me s1 e
        obtain ⟨p2, h4, rfl⟩ := Bl.mp rx
        rw [h1] at h4; cases h4
        obtain ⟨w, e1, rw1⟩ := yt h3 ed
        exact ⟨p, g.cls k', dx, ws, w, rfl, h2, hcl, hna, e1, (show ar g rho H Q d st1 from q1) _ H1 r1 k1 s1 rw1⟩
      · exact q1.elim
    · exact q1.elim
  · exact q1.elim
 | _ => exact q1.elim
theorem Qf (f h : Str) (v : D) : ∀ fs : List (Str × D), (Dr f v fs).lookup h = if h = f then some v else fs.lookup h
 | [] => by
  by_cases e : h = f
  · subst e; simp [Dr]
  · simp [Dr, List.lookup, e]; simp [beq_eq_false_iff_ne.mpr e]
 | (k, x) :: r => by
  unfold Dr
  by_cases ek : k = f
  · subst ek
    rw [if_pos rfl]
    by_cases e : h = k
    · subst e; simp
    · simp [List.lookup_cons, beq_eq_false_iff_ne.mpr e, e]
  · rw [if_neg ek, List.lookup_cons, List.lookup_cons, Qf f h v r]
    by_cases e : h = k
    · subst e; simp [ek]
    · simp [beq_eq_false_iff_ne.mpr e]
theorem yu (f : Str) (v : V) (d : D) : ∀ {ws : List (Str × V)} {fs : List (Str × D)} {rho : List Addr} {H : Hp}, ws.length = fs.length → (ws.lookup f = none ↔ fs.lookup f = none) → (bw f v ws).length = (Dr f d fs).length := by
 have l1 : ∀ ws : List (Str × V), (bw f v ws).length = if ws.lookup f = none then ws.length + 1 else ws.length := by
  intro ws
  induction ws with
  | nil => simp [bw]
  | cons p r ih =>
   obtain ⟨k, x⟩ := p
   unfold bw
   by_cases ek : k = f
   · subst ek; simp
   · have : (f == k) = false := beq_eq_false_iff_ne.mpr (Ne.symm ek)
     rw [if_neg ek, List.length_cons, ih, List.lookup_cons, this]
     split <;> simp_all
 have l2 : ∀ ws : List (Str × D), (Dr f d ws).length = if ws.lookup f = none then ws.length + 1 else ws.length := by
  intro ws
  induction ws with
  | nil => simp [Dr]
  | cons p r ih =>
   obtain ⟨k, x⟩ := p
   unfold Dr
   by_cases ek : k = f
   · subst ek; simp
   · have : (f == k) = false := beq_eq_false_iff_ne.mpr (Ne.symm ek)
     rw [if_neg ek, List.length_cons, ih, List.lookup_cons, this]
     split <;> simp_all
 intro ws fs rho H hl hi
 rw [l1, l2, hl]
 by_cases e : fs.lookup f = none
 · rw [if_pos e, if_pos (hi.mpr e)]
 · rw [if_neg e, if_neg (fun z => e (hi.mp z))]
theorem Yu (r : Ff g.K rho H fs ws) (rv : g.Rep rho H d v) : Ff g.K rho H (Dr f d fs) (bw f v ws) := fun h => by
 rw [Qf, lp]
 by_cases e : h = f
 · rw [if_pos e, if_pos e]; exact rv
 · rw [if_neg e, if_neg e]; exact r h
theorem fy {o : Expr} {o' : E} {f : Str} {k : Nat} {pt : Pos} (hcl : Cls X.K (g.cls k)) (hna : cu X.K (g.cls k) f) (ho : Sd g X o o') (ha : Sd g X a a') (hs : swapsWith a (some (.Attribute o f pt)) pos.line X.env = pure false := by rfl) : SdS g X F (.Assign [.Attribute o f pt] a pos) (.setf k o' f a') := dc (Vy ho ha hs) fun D sg H q => by
 obtain ⟨rho, st, env, s, n, q⟩ := q
 simp only [An] at q
 refine step s n q fun y st1 v H1 r1 k1 s1 n1 ry q1 => ?_
 refine step s1 n1 q1 fun x st2 u H2 r2 k2 s2 n2 rx q2 => ?_
 cases x with
 | loc m =>
  simp only at q2
  split at q2
  · rename_i k' fs e
    split at q2
    · rename_i hk
      obtain ⟨hl9, rfl⟩ := hk
      obtain ⟨p, dx, ws, h1, h2, hlen, h3⟩ := Me s2 e
      obtain ⟨p2, h4, rfl⟩ := Bl.mp rx
      rw [h1] at h4; cases h4
      refine ⟨p, g.cls k', dx, ws, rfl, h2, hcl, hna, by omega, ?_⟩
      have rv := ry.mono k2
      have hiff : ws.lookup f = none ↔ fs.lookup f = none := by
       have z := h3 f
       cases e1 : fs.lookup f <;> cases e2 : ws.lookup f <;> rw [e1, e2] at z <;> first | exact z.elim | simp
      obtain ⟨k3, s3⟩ := s2.wroteC (o := .ins (g.cls k') dx (bw f v ws)) (c1 := .ins k' (Dr f y fs)) h1 e rfl h2 ⟨fun _ => nofun, fun _ _ => nofun⟩ fun H3 eH kk => ⟨dx, _, eH, yu (rho := r2) (H := H2) f v y hlen hiff, (Yu h3 rv).mono kk⟩
      exact (show Bd g rho H D (.next env) _ from q2) _ _ r2 ((k1.trans k2).trans k3) s3 (n2.mono k3)
    · exact q2.elim
  · exact q2.elim
 | _ => exact q2.elim
variable {g : G} {X : Cx} {a b c : Expr} {a' b' c' : E} {pos apos : Pos} {rest es : List Expr} {es' : Es} {F : Nat}
theorem qg (hl : ∀ ds st, ds.length ≠ np → g.call f ds st = .bad) (s : g.Sto rho st H) (r : g.RepL rho H ds vs) (q : RQ g (g.call f ds st) (ar g rho H Q) rho H) : spD g.K g.cls np (g.call f) vs H Q g.xk := by
 have hlen : ds.length = np := Decidable.byContradiction fun z => by rw [hl _ _ z] at q; exact q
 refine ⟨by rw [← r.length]; exact hlen, rho, st, ds, s, r, ?_⟩
 revert q
 cases g.call f ds st with
 | ok d st' => exact fun q => q
 | exc c st' => exact fun q => q
 | bad => exact fun q => q
theorem Yv {c f : Nat} {m : Str} {fa : Addr} {o' : E} {np : Nat} {sg : L2.St} {H : Hp} {Q : VK} {t : TA} (hl : ∀ ds st, ds.length ≠ np → g.call f ds st = .bad)
    (ht : ∀ {rho st env H K}, g.Sto rho st H → g.Env rho H env sg → RQ g ((Au g.tab g.call es' env st).bind K) (ar g rho H Q) rho H → True) (q : tE g (.En c f m o' es') sg H Q) :
    (tE g o' sg H fun x H1 => ∃ p dx ws, x = .ref p ∧ H1 p = some (.ins (g.cls c) dx ws) ∧ ws.lookup m = none ∧ tEs g es' sg H1 fun vs H2 => spD g.K g.cls np (g.call f) (x :: (vs ++ [])) H2 Q g.xk) := by
  obtain ⟨rho, st, env, s, n, q⟩ := q
  simp only [Ad] at q
  refine step s n q fun x st1 v H1 r1 k1 s1 n1 rx q1 => ?_
  cases x with
  | loc j =>
    simp only at q1
    split at q1
    · rename_i c' fs e
      split at q1
      · rename_i hc
        obtain ⟨rfl, hn⟩ := hc
        obtain ⟨p, dx, ws, h1, h2, _, h3⟩ := Me s1 e
        have rx' := rx
        obtain ⟨p2, h4, rfl⟩ := Bl.mp rx
        rw [h1] at h4; cases h4
        refine ⟨p, dx, ws, rfl, h2, Yt h3 hn, eh s1 n1 q1 fun ds st2 vs H2 r2 k2 s2 n2 rps q2 => ?_⟩
        rw [List.append_nil]
        exact qg hl s2 (by simp only [RepL]; exact ⟨_, _, rfl, rx'.mono k2, rps⟩) (RQ.mono (.refl _ _) q2 fun _ _ p => p.mono (k1.trans k2))
      · exact q1.elim
    · exact q1.elim
  | _ => exact q1.elim
theorem Qg {pl : Sem Bool} (hcl : Cls X.K (g.cls cc)) (hm : Meth X.K (g.cls cc) m fa)
    (Fn : FnOk X.prog X.w X.K X.mg X.base (CXd X.prog X.w) k fa fd ps (spD g.K g.cls np (g.call f))) (hr : Room k X.A) (hb : Binds X.K fd ps []) (hx : Passes (CXd X.prog X.w) X g.xk) (hl : ∀ ds st, ds.length ≠ np → g.call f ds st = .bad)
    (ho : Sd g X o o') (ha : SdL g X (e :: es) es') (hst : starEach (e :: es) X.env = (false, eval e X.env) :: starEach es X.env := by rfl) (hpl : (backTo pos (starEach es X.env)).any (·.1) = false := by rfl)
    (ht : eval (.Call (.Attribute o m apos) (e :: es) [] pos) X.env = (do
      let ov ← eval o X.env
      standAt apos.atName
      let (f, first) ← holding [ov] (getMethod ov m pl)
      callWith pos f first (backTo pos (starEach (e :: es) X.env)) (backToKw pos (keywordEach [] X.env))) := by rfl) :
    Sd g X (.Call (.Attribute o m apos) (e :: es) [] pos) (.En cc f m o' es') :=
  bb (We (dvs := []) (ds := []) ho hcl hm Fn hr hb .nil hx ha hst hpl ht) fun sg H Q q => Yv (fa := fa) (t := fun _ _ _ => True) hl (fun _ _ _ => trivial) q
theorem yw (hl : ∀ ds st, ds.length ≠ np → g.call f ds st = .bad) (s : g.Sto rho st H) (r : g.RepL rho H ds vs)
    (q : RQ g ((g.call f (.loc st.length :: ds) (st ++ [.ins cc []])).bind fun r st' => match r with | .non => .ok (.loc st.length) st' | _ => .bad) (ar g rho H Q) rho H) :
    ∀ x dx, H x = none → H dx = none → dx ≠ x → spD g.K g.cls np (g.call f) (.ref x :: (vs ++ [])) (upd (upd H dx (.own x)) x (.ins (g.cls cc) dx [])) (fun v H2 => v = .non ∧ Q (.ref x) H2) g.xk := by
  intro x dx hx hdx hne
  have e1 := ff hdx (.own x)
  have s1 := s.same e1
  have hx1 : upd H dx (.own x) x = none := by rw [Be (Ne.symm hne)]; exact hx
  obtain ⟨k2, s2⟩ := s1.laid hx1 (o := .ins (g.cls cc) dx []) (c := .ins cc []) ⟨dx, [], cj, rfl, fun f => trivial⟩
  have kk := (bg.keep e1 rho).trans k2
  rw [List.append_nil]
  refine qg hl s2 (ds := .loc st.length :: ds) (by simp only [RepL]; exact ⟨_, _, rfl, Bl.mpr ⟨x, by rw [← s.len]; simp, rfl⟩, r.mono kk⟩) ?_
  revert q
  cases g.call f (.loc st.length :: ds) (st ++ [.ins cc []]) with
  | bad => exact fun q => q
  | exc c st' => exact fun q H' rho' k s' => q H' rho' (kk.trans k) s'
  | ok d st' =>
    simp only [bo]
    cases d with
    | non =>
      intro q v H' rho' k s' rv
      refine ⟨dh.mp rv, (show ar g rho H Q (.loc st.length) st' from q) _ H' rho' (kk.trans k) s' (Bl.mpr ⟨x, k.at ?_, rfl⟩)⟩
      rw [← s.len]; simp
    | _ => exact fun q => q.elim
theorem Yw {p : Pos} (M : Mk X.K (g.cls cc) fa) (Fn : FnOk X.prog X.w X.K X.mg X.base (CXd X.prog X.w) k fa fd ps (spD g.K g.cls np (g.call f))) (hr : Room (k + 1) X.A) (hg : Gl X x) (hm : X.mg x = some (.ref (g.cls cc)))
    (hb : Binds X.K fd ps []) (hx : Passes (CXd X.prog X.w) X g.xk) (hl : ∀ ds st, ds.length ≠ np → g.call f ds st = .bad) (ha : SdL g X (e :: es) es') (hdb : (x == ("__debug__" : Str)) = false := by decide) (he : starEach (e :: es) X.env = (false, eval e X.env) :: starEach es X.env := by rfl) (hpl : (backTo pos (starEach es X.env)).any (·.1) = false := by rfl) :
    Sd g X (.Call (.Name x p) (e :: es) [] pos) (.mk cc f es') := bb (wg (dvs := []) (ds := []) M Fn hr hg hm hb .nil hx ha hdb he hpl) fun sg H Q q => by
  obtain ⟨rho, st, env, s, n, q⟩ := q
  simp only [Ad] at q
  refine eh s n q fun ds st1 vs H1 r1 k1 s1 n1 rps q1 => ?_
  exact yw hl s1 rps (RQ.mono (.refl _ _) q1 fun _ _ p => p.mono k1)
variable {g : G} {X : Cx} {a b c : Expr} {a' b' c' : E} {pos apos cpos : Pos} {rest es : List Expr} {es' : Es} {F : Nat}
theorem qh : ∀ {ds : List D} {vs : List V} {us : List Value} {bs : List Bool}, g.RepL rho H ds vs → Vals vs us → ef ds = some bs → us = bs.map Value.bool
 | [], vs, us, bs, r, rv, e => by
  simp only [RepL] at r; subst r
  cases rv
  simp [ef] at e; subst e; rfl
 | d :: t, vs, us, bs, r, rv, e => by
  simp only [RepL] at r
  obtain ⟨v, w, rfl, r1, r2⟩ := r
  cases d with
  | bl b =>
   simp only [ef] at e
   cases et : ef t with
   | none => rw [et] at e; cases e
   | some bs' =>
    rw [et] at e; cases e
    cases bh.mp r1
    cases rv with
    | cons q1 q2 =>
     cases q1
     rw [qh r2 q2 et]; rfl
  | _ => cases e
theorem range_all (bs : List Bool) : (List.range bs.length).all (fun i => bs.getD i false) = bs.all id := by
 rw [Bool.eq_iff_iff, List.all_eq_true, List.all_eq_true]
 constructor
 · intro h b hb
   obtain ⟨i, hi, rfl⟩ := List.mem_iff_getElem.mp hb
   have := h i (List.mem_range.mpr hi)
   simpa [hi] using this
 · intro h i hi
   have hi := List.mem_range.mp hi
   have := h bs[i] (List.getElem_mem hi)
   simpa [hi] using this
def mf (g : G) (all : Bool) : List V → Hp → VK → Prop := fun xs H Q => ∃ rho st m ds bs p, xs = [.ref p] ∧ g.Sto rho st H ∧ rho[m]? = some p ∧ Az st m = some ds ∧ ef ds = some bs ∧ Q (.bl (if all then bs.all id else bs.any id)) H
theorem yx (hK : X.K = g.K) (hc : X.calm = true) {R : Bool → Prop} (I : Inv X pins sg H s) (S : g.Sto rho st H) (hr : rho[m]? = some p) (hl : Az st m = some ds) (hb : ef ds = some bs)
    (hQ : ∀ (it : Addr) (s₂ : Shared) (fp wr : List Addr) (P : Nat → Value → Prop) (St : Nat → Heap → Prop), Walks X.prog X.w X.A.in1 it fp wr bs.length P St → St 0 s₂.heap → TruthOf X.prog X.w X.A.in1 P (fun i => bs.getD i false) →
      (∀ h' tk, (∀ b o, b ∉ wr → s₂.heap.get? b = some o → h'.get? b = some o) → Inv X pins sg H { s₂ with heap := h', toks := tk }) → QQ (.ref it) s₂) :
    wpAny (model X.prog X.w) X.A.in1 (pyIter (.ref p)) QQ X.xe s := by
  obtain ⟨p2, vs, h1, sq, rl⟩ := Ei S hl
  rw [hr] at h1; cases h1
  rw [← hK] at sq
  obtain ⟨its, rv, pl, hz⟩ := I.list sq
  have e := qh rl rv hb
  subst e
  have hlt : p < s.heap.objs.size := by
    obtain ⟨o, ho, _⟩ := pl.isList
    exact Heap.lt_size ho
  refine wpAny_pyIter_list pl.isList (hQ _ _ [s.heap.objs.size, p] [s.heap.objs.size] (fun i v => (bs.map Value.bool).toArray[i]? = some v) (fun i h => h.IsListIter s.heap.objs.size p i ∧ h.IsList p (bs.map Value.bool).toArray) ?_ ⟨?_, ?_⟩ ?_ ?_)
  · have W := Walks.list (prog := X.prog) (w := X.w) (A := X.A.in1) (I.ok.hd hc) s.heap.objs.size p (Nat.ne_of_lt hlt) (bs.map Value.bool).toArray
    simpa using W
  · exact ⟨_, Heap.get?_push_size _ rfl, rfl, rfl⟩
  · exact pl.isList.push _
  · intro i v s Q E hP hQ
    have hP : (bs.map Value.bool)[i]? = some v := by simpa using hP
    rw [List.getElem?_map] at hP
    cases eb : bs[i]? with
    | none => rw [eb] at hP; cases hP
    | some b =>
      rw [eb] at hP; cases hP
      have : bs.getD i false = b := by simp [List.getD, eb]
      have hQ : Q (bs.getD i false) s := hQ
      rw [this] at hQ
      exact wpAny_truthy_bool hQ
  · intro h' tk hk
    refine I.kept (t' := tk) (h' := h') fun b u e => hk b u ?_ (Heap.get?_push_of_some _ e)
    intro z
    simp at z
    subst z
    exact Nat.lt_irrefl _ (Heap.lt_size e)
theorem Yx (hK : X.K = g.K) (hc : X.calm = true) : df X (.builtin "all") (mf g true) := by
 rintro pins s sg H xs us Q I r ⟨rho, st, m, ds, bs, p, rfl, S, hr, hl, hb, q⟩
 obtain ⟨u, rfl, ru⟩ := vals1 r
 cases ru
 refine call_all_walk (yx (R := fun _ => True) hK hc I S hr hl hb fun it s₂ fp wr P St W hst htr hk => ⟨it, fp, wr, bs.length, P, St, _, rfl, W, hst, htr, fun h' tk k => ?_⟩)
 rw [range_all]
 exact ⟨.bl _, H, hk h' tk k, rfl, q⟩
theorem Yy (hf : f = if al then .allB else .anyB) (s : g.Sto rho st H) (r : g.RepL rho H ds vs) (q : RQ g (btD f ds st) (ar g rho H Q) rho H) : mf g al vs H Q := by
 obtain ⟨d, rfl⟩ := Jb q
 obtain ⟨v, rfl, r1⟩ := Fx r
 have go : ∀ n, d = .loc n → (∃ bs, (Az st n).bind ef = some bs ∧ ar g rho H Q (.bl (if al then bs.all id else bs.any id)) st) → mf g al [v] H Q := by
  rintro n rfl ⟨bs, e, q⟩
  cases el : Az st n with
  | none => rw [el] at e; cases e
  | some xs =>
   rw [el] at e
   obtain ⟨p, h1, rfl⟩ := Bl.mp r1
   exact ⟨rho, st, n, xs, bs, p, rfl, s, h1, el, e, q _ H rho (.refl _ _) s (bh.mpr rfl)⟩
 cases al with
 | true =>
  subst hf
  cases d with
  | loc n =>
   simp only [if_true, btD] at q
   split at q
   · rename_i bs e; exact go n rfl ⟨bs, e, q⟩
   · exact q.elim
  | _ => exact q.elim
 | false =>
  subst hf
  cases d with
  | loc n =>
   simp only [Bool.false_eq_true, if_false, btD] at q
   split at q
   · rename_i bs e; exact go n rfl ⟨bs, e, q⟩
   · exact q.elim
  | _ => exact q.elim
theorem jd {p : Pos} (hK : X.K = g.K) (hc : X.calm = true) (hg : Gl X "all") (hm : X.mg "all" = none) (ha : SdL g X (e :: es) es') (he : starEach (e :: es) X.env = (false, eval e X.env) :: starEach es X.env := by rfl) (hpl : (backTo pos (starEach es X.env)).any (·.1) = false := by rfl) :
    Sd g X (.Call (.Name "all" p) (e :: es) [] pos) (.bt .allB es') := bb (Hz (Yx hK hc) hg hm rfl ha (by decide) (by decide) he hpl) fun sg H Q q => bts (f := .allB) (fun ds vs st rho H Q s r q => Yy (al := true) rfl s r q) q
end DD
namespace DD
open PySem PySem.Spec L2
open PyProof.Rows hiding St RelV
variable {g : G} {X : Cx} {pos : Pos} {F : Nat}
def kg (g : G) (e : Es) : TT := fun sg H Q => ∃ rho st env, g.Sto rho st H ∧ g.Env rho H env sg ∧ RQ g (Cz g.tab g.call e env st) (da g rho H Q) rho H
def PTs (X : Cx) (ifs : List Expr) (t : TT) : Prop := ∀ (pins : List (Addr × Obj)) (s : Shared) (sg : L2.St) (H : Hp) (Q : Bool → Hp → Prop), Inv X pins sg H s → t sg H Q →
 wpAny (model X.prog X.w) X.A (forIn ifs true fun c r => if r = true then do let ok ← isTrue c X.env (eval c X.env); pure (ForInStep.yield ok) else pure (ForInStep.yield r)) (TP X pins sg Q) X.xe s
theorem Dx : PTs X [] (kg g .nil) := fun pins s sg H Q I q => by
 obtain ⟨rho, st, env, S, n, q⟩ := q
 simp only [Cz] at q
 exact wpAny_tests_nil ⟨H, I, (show da g rho H Q true st from q) H rho (.refl _ _) S⟩
abbrev Mf (X : Cx) (scope : Scope) (cl : List (Str × Addr)) (L : Addr) : PySem.Env := { newEnv scope L X.env.globals cl X.env.qual none .none (some X.env) builtinsNs with scope := relabel scope X.env }
abbrev cxG (X : Cx) (N : List Str) (scope : Scope) (cl : List (Str × Addr)) (L : Addr) (s0 : Shared) (H0 : Hp) (fp : List Addr) (pn : List (Addr × Obj)) : Cx :=
 { X with N := N, s₀ := s0, H₀ := H0, env := Mf X scope cl L, outer := X.stack, stack := X.stack, ex := fp, fn := fun x => (cl.lookup x).isNone, pn := pn, xe := fun _ _ => False }
theorem Mg (I : L2.Inv X pins sg H s) (h : cy X pins H2 b) : b ∉ frs X.stack := fun hm => by
 rcases List.mem_cons.mp (I.stkSub b hm) with z | z
 · exact h.2.1 z
 · exact h.2.2.1 z
structure Clos (X : Cx) (scope : Scope) (cl : List (Str × Addr)) : Prop where
 sub : ∀ x c, cl.lookup x = some c → X.env.cells.lookup x = some c
 has : ∀ x, ((relabel scope X.env).names.lookup x = some .cell ∨ (relabel scope X.env).names.lookup x = some .free) → ∃ c, cl.lookup x = some c
theorem Qh {pins : List (Addr × Obj)} {sg : L2.St} {H : Hp} {s3 : Shared} {N : List Str} {nl : Nat} {fv : List Nat} {scope : Scope} {cl : List (Str × Addr)} {fp : List Addr} {h1 : Heap} {m : Str → Option Value} {tk : Nat} (hkind : scope.kind = .function) (C : Clos X scope cl)
    (hN : N.length = nl + fv.length) (hfv : ∀ j k, fv[j]? = some k → ∃ x c, N[nl + j]? = some x ∧ X.N[k]? = some x ∧ cl.lookup x = some c ∧ (X.env.scope.names.lookup x = some .cell ∨ X.env.scope.names.lookup x = some .free) ∧ ((relabel scope X.env).names.lookup x = some .cell ∨ (relabel scope X.env).names.lookup x = some .free))
    (I : L2.Inv X pins sg H s3) (hfp : ∀ b ∈ fp, cy X pins H b ∧ b < s3.heap.objs.size) (hn : h1.Ns s3.heap.objs.size m) (hk : ∀ b o, s3.heap.get? b = some o → h1.get? b = some o) :
    L2.Inv (cxG X N scope cl s3.heap.objs.size s3 H fp (X.pn ++ pins)) [] (List.replicate nl none ++ fv.map fun k => (sg[k]?).join) H { s3 with heap := h1, toks := tk } := by
  have fsF : ∀ b, b < s3.heap.objs.size → b ≠ s3.heap.objs.size := fun b h z => by rw [z] at h; exact Nat.lt_irrefl _ h
  refine ⟨⟨I.ok.mod, hkind, I.ok.glob, I.ok.blt, Nat.le_refl _, fun x y c h1 h2 => I.ok.inj x y c (C.sub x c h1) (C.sub y c h2), fun y hy => C.has y hy, fun y c hy h => ?_, I.ok.hd, I.ok.frames, .inl rfl, fun b hb => ⟨fsF b (hfp b hb).2, fun y c h => (hfp b hb).1.2.2.2.2.1 y c (C.sub y c h)⟩, I.bs, Nat.le_trans I.ok.bsz I.sz, fun b o e hb => ?_, fun b hb => Mg I (hfp b hb).1, I.stack, I.stkFree⟩,
    rfl, I.bare, Un.kept hk, ⟨m, hn, fun i y v e1 e2 _ => ?_⟩, fun y c h => ?_, I.hok.fresh (Nat.le_refl _), fun y c h => I.freeC y c (C.sub y c h), fun p hp => ?_, I.hok.kept hk, ?_⟩
  · have h : cl.lookup y = some c := h
    have hy : (cl.lookup y).isNone = true := hy
    rw [h] at hy; cases hy
  · obtain ⟨f, _⟩ := hfp b hb
    rcases f.2.2.2.1 with z | z
    · exact I.ok.noex b o e z
    · exact absurd (Nat.lt_of_lt_of_le (Heap.lt_size e) (Nat.le_trans I.ok.bsz z)) (Nat.lt_irrefl _)
  · by_cases hi : i < nl
    · rw [List.getElem?_append_left (by simpa using hi), List.getElem?_replicate] at e2
      split at e2 <;> cases e2
    · rw [List.getElem?_append_right (by simp; omega)] at e2
      simp only [List.length_replicate, List.getElem?_map] at e2
      cases ek : fv[i - nl]? with
      | none => rw [ek] at e2; cases e2
      | some k =>
        rw [ek] at e2
        simp only [Option.map_some, Option.some.injEq] at e2
        obtain ⟨x, c, n1, n2, n3, n4, n5⟩ := hfv _ k ek
        have ei : nl + (i - nl) = i := by omega
        rw [ei] at n1
        have e1 : N[i]? = some y := e1
        rw [n1] at e1; cases e1
        have e3 : sg[k]? = some (some v) := by
          cases z : sg[k]? with
          | none => rw [z] at e2; cases e2
          | some o => rw [z] at e2; cases o with
            | none => cases e2
            | some w => cases e2; rfl
        obtain ⟨m0, hm0, hl⟩ := I.loc
        obtain ⟨u, ru, lk⟩ := hl k _ v n2 e3 (by rcases n4 with z | z; exact .inr (.inl z); exact .inr (.inr z))
        refine ⟨u, ru, .inr ⟨n5, c, n3, ?_⟩⟩
        rcases lk with ⟨k1, _⟩ | ⟨_, c2, k2, k3⟩
        · have k1 : X.env.scope.names.lookup y = some .local := k1
          rcases n4 with z | z <;> (rw [z] at k1; cases k1)
        · rw [C.sub _ c n3] at k2; cases k2
          obtain ⟨o, ho, hd⟩ := k3
          exact ⟨o, hk _ _ ho, hd⟩
  · obtain ⟨v, o, ho, hd⟩ := I.cell y c (C.sub y c h)
    exact ⟨v, o, hk _ _ ho, hd⟩
  · rw [List.append_nil] at hp
    obtain ⟨p1, p2, p3, p4, p5⟩ := I.pin p hp
    refine ⟨hk _ _ p1, p2, fsF _ (Heap.lt_size p1), fun hm => ?_, p5⟩
    rcases List.mem_cons.mp (I.stkSub p.1 hm) with z | z
    · exact p3 z
    · exact p4 z
  · show (List.replicate nl none ++ fv.map _).length = N.length
    simp [hN]
theorem yz (I : Nat → Shared → Prop)
    (turn : ∀ n s, I n s → wpAny (model prog w) A (pyNext it) (fun r s₁ => match r with
      | none => R (.ok .next) s₁
      | some v => wpAny (model prog w) A (letOwnedTupleGo target it v) (fun _ s₁ => wpAny (model prog w) A (assign target env v) (fun _ s₂ =>
          wpAny (model prog w) A (forIn ifs true fun c r => if r = true then do let ok ← isTrue c env (eval c env); pure (ForInStep.yield ok) else pure (ForInStep.yield r)) (fun ok s₃ =>
            if ok = true then wpAny (model prog w) A (eval elt env) (fun x s₄ =>
              wpAny (model prog w) A (call (.builtin "list.append") [acc, x]) (fun _ s₅ => ∃ m, m < n ∧ I m s₅) (notedBy (model prog w) A env fun e s' => R (.error e) s') s₄) (notedBy (model prog w) A env fun e s' => R (.error e) s') s₃
            else ∃ m, m < n ∧ I m s₃) (notedBy (model prog w) A env fun e s' => R (.error e) s') s₂) (notedBy (model prog w) A env fun e s' => R (.error e) s') s₁) (notedBy (model prog w) A env fun e s' => R (.error e) s') s₁) (notedBy (model prog w) A env fun e s' => R (.error e) s') s)
    (n : Nat) (h : I n s) : codeAny (model prog w) A (.compLoop (.ListComp elt [⟨target, iter, ifs, 0⟩] scope pos) 0 it acc env) R s := by
  refine codeAny_loop rfl I (fun n s hI => ?_) n h
  show wpAny _ _ ((compTurn (.ListComp elt [⟨target, iter, ifs, 0⟩] scope pos) 0 it acc env).onRaise (fun x => do noteFrame x env; theTreesLotGoes x)) _ _ s
  refine wpAny_noted ?_
  rw [compTurn_list]
  refine wpAny_bind (wpAny_standAt (wpAny_bind (wpAny_mono (turn n s hI) (fun r s₁ h₁ => ?_) fun _ _ h' => h')))
  cases r with
  | none => exact wpAny_pure h₁
  | some v =>
    refine wpAny_bind (wpAny_mono h₁ (fun _ s₁ h₁ => ?_) fun _ _ h' => h')
    refine wpAny_bind (wpAny_mono h₁ (fun _ s₂ h₂ => wpAny_bind (wpAny_mono h₂ (fun ok s₃ h₃ => ?_) fun _ _ h' => h')) fun _ _ h' => h')
    cases ok with
    | false => exact wpAny_pure ⟨rfl, h₃⟩
    | true =>
      exact wpAny_bind (wpAny_bind (wpAny_mono h₃ (fun x s₄ h₄ => wpAny_bind (wpAny_mono h₄ (fun _ s₅ h₅ => wpAny_pure (wpAny_pure ⟨rfl, h₅⟩)) fun _ _ h' => h')) fun _ _ h' => h'))
variable {g : G} {X : Cx} {pos : Pos} {F : Nat}
def ItJ (g : G) (J : It) (xs : List D) (p : Option Nat) (r1 : List Addr) (H1 : Hp) : Prop := ∀ rho st H, g.Keep r1 H1 rho H → g.Sto rho st H → stays st p xs = true → J.stop xs.length H ∧ ∀ (i : Nat) (d : DD.D), xs[i]? = some d → J.go i H ∧ ∀ x H', J.yld i H x H' → bg H H' ∧ g.Rep rho H' d x
theorem mh (e : H' = H) (r : g.Rep rho H d x) : bg H H' ∧ g.Rep rho H' d x := by
 subst e; exact ⟨fun _ _ h => h, r⟩
def SdI (g : G) (X : Cx) (target iter : Expr) (n : Nat) (it' : E) : Prop := ∃ wi : TI, PI X target iter wi ∧ ∀ rho st env sg H (R : It → Hp → Prop), g.Sto rho st H → g.Env rho H env sg →
 RQ g (Ad g.tab g.call it' env st) (fun d st1 => ∃ xs p, eg n st1 d = some (xs, p) ∧ ∀ H1 r1 J, g.Keep rho H r1 H1 → g.Sto r1 st1 H1 → ItJ g J xs p r1 H1 → R J H1) rho H → wi sg H R
theorem fj (hK : X.K = g.K) (h : Sd g X iter it') : SdI g X target iter 0 it' := by
 refine ⟨_, Ob h, fun rho st env sg H R s n q => ?_⟩
 refine ⟨rho, st, env, s, n, ?_⟩
 revert q
 cases Ad g.tab g.call it' env st with
 | bad => exact fun q => q
 | exc c st1 => exact fun q => q
 | ok d st1 =>
  rintro ⟨xs, p, e, q⟩ v H1 r1 k1 s1 rv
  cases d with
  | loc m =>
   simp only [eg] at e
   cases el : Az st1 m with
   | none => rw [el] at e; cases e
   | some ds =>
    rw [el] at e; cases e
    obtain ⟨a, vs, hr, sq, rl⟩ := Ei s1 el
    obtain ⟨a2, hr2, rfl⟩ := Bl.mp rv
    rw [hr] at hr2; cases hr2
    refine ⟨a, rfl, ⟨vs, by rw [hK]; exact sq⟩, q H1 r1 _ k1 s1 ?_⟩
    rw [hK]
    intro rho st H kk s hst
    have hst : Az st m = some xs := odt hst
    obtain ⟨p3, ws, hr3, sq3, rl3⟩ := Ei s hst
    rw [kk.at hr] at hr3; cases hr3
    refine ⟨⟨ws, sq3, by rw [← rl3.length]; exact Nat.le_refl _⟩, fun i d hd => ?_⟩
    obtain ⟨v, hv, rv⟩ := rl3.get hd
    refine ⟨⟨ws, v, sq3, hv⟩, fun x H' y => mh y.1 ?_⟩
    have := y.2 ws sq3
    rw [hv] at this; cases this
    exact rv
  | _ => cases e
theorem Yz (hK : X.K = g.K) (h : Sd g X iter it') : SdI g X target iter 1 it' := by
 refine ⟨_, Oc h, fun rho st env sg H R s n q => ?_⟩
 refine ⟨rho, st, env, s, n, ?_⟩
 revert q
 cases Ad g.tab g.call it' env st with
 | bad => exact fun q => q
 | exc c st1 => exact fun q => q
 | ok d st1 =>
  rintro ⟨xs, p, e, q⟩ v H1 r1 k1 s1 rv
  cases d with
  | tup ds =>
   simp only [eg] at e; cases e
   obtain ⟨a, vs, rfl, sq, rl⟩ := bz.mp rv
   refine ⟨a, rfl, ⟨vs, by rw [hK]; exact sq⟩, q H1 r1 _ k1 s1 ?_⟩
   rw [hK]
   intro rho st H kk s hst
   have sq3 := kk.tup a vs sq
   have rl3 := rl.mono kk
   refine ⟨⟨vs, sq3, by rw [← rl3.length]; exact Nat.le_refl _⟩, fun i d hd => ?_⟩
   obtain ⟨v, hv, rv⟩ := rl3.get hd
   refine ⟨⟨vs, v, sq3, hv⟩, fun x H' y => mh y.1 ?_⟩
   have := y.2 vs sq3
   rw [hv] at this; cases this
   exact rv
  | _ => cases e
def Mh (g : G) (tg : List Nat) (one : Bool) (env0 : Env) (ifs : Es) (elt : E) (d : D) (st : Sto) : Res (Option D) := match store tg one d env0 with
 | some env' => (Cz g.tab g.call ifs env' st).bind fun b st => if b then (Ad g.tab g.call elt env' st).bind fun y st => .ok (some y) st else .ok none st
 | none => .bad
theorem mi : ∀ {xs : List D} {st : Sto}, compLoop all p n0 body xs st ≠ .exc c st'
 | [], st => by
  simp only [compLoop]
  split <;> (intro h; cases h)
 | d :: r, st => by
  simp only [compLoop]
  split
  · split
    · split
      · split
        · exact mi
        · intro h; cases h
      · intro h; cases h
    · exact mi
    · intro h; cases h
  · intro h; cases h
theorem Mi : ∀ {is : List Nat} {ds : List D} {env env' : Env}, cb is ds env = some env' → (∀ i ∈ is, i < nl) → env'.length = env.length ∧ ∀ j, nl ≤ j → env'[j]? = env[j]?
 | [], [], env, env', e, _ => by simp only [cb] at e; cases e; exact ⟨rfl, fun _ _ => rfl⟩
 | [], _ :: _, env, env', e, _ => by simp [cb] at e
 | _ :: _, [], env, env', e, _ => by simp [cb] at e
 | i :: r, d :: t, env, env', e, h => by
  simp only [cb] at e
  split at e
  · obtain ⟨h1, h2⟩ := Mi e fun k hk => h k (List.mem_cons_of_mem _ hk)
    have hi := h i List.mem_cons_self
    refine ⟨by rw [h1]; simp, fun j hj => ?_⟩
    rw [h2 j hj, List.getElem?_set_ne (by omega)]
  · cases e
theorem qi (e : store is one d env = some env') (h : ∀ i ∈ is, i < nl) : env'.length = env.length ∧ ∀ j, nl ≤ j → env'[j]? = env[j]? := by
 unfold store at e
 cases one with
 | true => rw [if_pos rfl] at e; exact Mi e h
 | false =>
  rw [if_neg Bool.false_ne_true] at e
  cases d with
  | tup ds => exact Mi e h
  | _ => cases e
theorem Qi (h : (cq nl fv env)[j]? = some (some d)) : nl ≤ j ∧ ∃ k, fv[j - nl]? = some k ∧ cz env k = some d := by
 unfold cq at h
 by_cases hj : j < nl
 · rw [List.getElem?_append_left (by simpa using hj), List.getElem?_replicate] at h
   split at h <;> cases h
 · refine ⟨by omega, ?_⟩
   rw [List.getElem?_append_right (by simp; omega)] at h
   simp only [List.length_replicate, List.getElem?_map] at h
   cases ek : fv[j - nl]? with
   | none => rw [ek] at h; cases h
   | some k => rw [ek] at h; simp only [Option.map_some, Option.some.injEq] at h; exact ⟨k, rfl, h⟩
theorem za (h : cz env k = some d) : env[k]? = some (some d) := by
 unfold cz at h
 cases z : env[k]? with
 | none => rw [z] at h; cases h
 | some o => rw [z] at h; cases o with
  | none => cases h
  | some y => cases h; rfl
theorem qj (n : g.Env rho H env sg) (nl : Nat) (fv : List Nat) : g.Env rho H (cq nl fv env) (List.replicate nl none ++ fv.map fun k => (sg[k]?).join) := by
 refine ⟨by simp [cq], fun j d e => ?_⟩
 obtain ⟨hj, k, ek, ed⟩ := Qi e
 obtain ⟨v, e1, r⟩ := n.val k d (za ed)
 refine ⟨v, ?_, r⟩
 rw [List.getElem?_append_right (by simp; omega)]
 simp [ek, e1]
theorem Qj (h0 : env0 = cq nl fv env) (hl : env'.length = env0.length) (hh : ∀ j, nl ≤ j → env'[j]? = env0[j]?) (n : g.Env rho H env' sg) : g.Env rho H env0 sg := by
 subst h0
 refine ⟨by rw [← hl]; exact n.len, fun j d e => ?_⟩
 obtain ⟨hj, _⟩ := Qi e
 exact n.val j d (by rw [hh j hj]; exact e)
variable {g : G} {X : Cx} {pos : Pos} {F : Nat}
theorem Za {elt iter target : Expr} {ifs : List Expr} {N : List Str} {nl : Nat} {fv tgs : List Nat} {one : Bool} {k : Nat} {scope : Scope} {cl : List (Str × Addr)} {it' elt' : E} {ifs' : Es} (hK : X.K = g.K) (hc : X.calm = true) (hkind : scope.kind = .function) (hcell : ∀ y ∈ scope.names, y.2 ≠ .cell)
    (hnames : ∀ y ∈ scope.names, y.2 = .local → scope.names.lookup y.1 = some .local) (hclos : closureFor scope X.env = pure cl) (C : Clos X scope cl) (hN : N.length = nl + fv.length)
    (hfv : ∀ j k, fv[j]? = some k → ∃ x c, N[nl + j]? = some x ∧ X.N[k]? = some x ∧ cl.lookup x = some c ∧ (X.env.scope.names.lookup x = some .cell ∨ X.env.scope.names.lookup x = some .free) ∧ ((relabel scope X.env).names.lookup x = some .cell ∨ (relabel scope X.env).names.lookup x = some .free))
    (htg : ∀ i ∈ tgs, i < nl) (hi : SdI g X target iter k it') (hg : ∀ L s0 H0 fp pn, PG (cxG X N scope cl L s0 H0 fp pn) target (tg g.K tgs one))
    (ht : ∀ L s0 H0 fp pn, PTs (cxG X N scope cl L s0 H0 fp pn) ifs (kg (g.with fun _ _ _ => False) ifs')) (he : ∀ L s0 H0 fp pn, Sd (g.with fun _ _ _ => False) (cxG X N scope cl L s0 H0 fp pn) elt elt')
    (hs : ∀ x, foldedSetIterable iter X.env x = pure x := by intro _; rfl)
    {use : Option (Value → Sem Unit)} {Qv : Value → Shared → Prop} {pins : List (Addr × Obj)} {s : Shared} {sg : L2.St} {H : Hp} {Q : VK} (I : L2.Inv X pins sg H s) (q : tE g (.comp k one nl tgs fv it' ifs' elt') sg H Q)
    (hfin : ∀ (ac C : Addr) (H' : Hp) (s4 : Shared), (∃ m, s4.heap.Ns C m) → cy X pins H' C → (∀ h', Heap.SameBut C s4.heap h' → L2.Inv X pins sg H' { s4 with heap := h' }) → Q (.ref ac) H' → compPost (model X.prog X.w) X.A X.xe use Qv (.ref ac) C (.ok .next) s4) :
    wpAny (model X.prog X.w) X.A (comprehension (.ListComp elt [⟨target, iter, ifs, 0⟩] scope pos) scope X.env (firstIterPos [⟨target, iter, ifs, 0⟩] pos) (newList []) (firstAsync [⟨target, iter, ifs, 0⟩]) (firstIter [⟨target, iter, ifs, 0⟩] X.env) use) Qv X.xe s := by
  obtain ⟨rho, st, env, S, n, q⟩ := q
  obtain ⟨wi, hpi, hwi⟩ := hi
  generalize hB : Mh g tgs one (cq nl fv env) ifs' elt' = body
  have q : RQ g ((Ad g.tab g.call it' env st).bind fun d st => match eg k st d with
      | some (xs, p) => (compLoop xs p st.length body xs (st ++ [.lst []])).bind fun _ st' => .ok (.loc st.length) st'
      | none => .bad) (ar g rho H Q) rho H := by
    rw [← hB]
    simp only [Ad] at q
    exact q
  refine wpAny_comprehension_free (use := use) rfl hs hclos hkind hnames ?_
  have hpi := hpi pins s sg H
    (fun J H1 => ∃ r1 st1 xs p, g.Keep rho H r1 H1 ∧ g.Sto r1 st1 H1 ∧ ItJ g J xs p r1 H1 ∧
      RQ g ((compLoop xs p st1.length body xs (st1 ++ [.lst []])).bind fun _ st' => .ok (.loc st1.length) st') (ar g rho H Q) r1 H1) I ?_
  · refine thn hpi fun v s1 h1 => thn h1 fun itv s2 h2 => ?_
    obtain ⟨it, fp, tn, J, H1, rfl, I2, T, st2, f2, r1, st1, xs, p, k1, S1, hJ, q1⟩ := h2
    obtain ⟨stf, hloop, q1⟩ : ∃ stf, compLoop xs p st1.length body xs (st1 ++ [.lst []]) = .ok () stf ∧ ar g rho H Q (.loc st1.length) stf := by
      revert q1
      cases e : compLoop xs p st1.length body xs (st1 ++ [.lst []]) with
      | ok u stf => exact fun q => ⟨stf, rfl, q⟩
      | exc c st2 => exact absurd e mi
      | bad => exact fun q => q.elim
    refine wpAny_newObj_type ?_
    have I3 := I2.lnew (its := []) (ys := []) (t' := s2.toks) .nil (Nat.zero_le _)
    have hn3 := I2.fresh
    generalize hs3 : ({ s2 with heap := s2.heap.push { cls := .type "list", data := .seq ([] : List Value).toArray } } : Shared) = s3
    have I3 : L2.Inv X pins sg (upd H1 s2.heap.objs.size (.lst [])) s3 := by rw [← hs3]; exact I3
    have hsz : s3.heap.objs.size = s2.heap.objs.size + 1 := by rw [← hs3]; exact Heap.size_push _ _
    have up3 : ∀ b o, s2.heap.get? b = some o → s3.heap.get? b = some o := fun b o e => by rw [← hs3]; exact Heap.get?_push_of_some _ e
    have hfp : ∀ b ∈ fp, cy X pins (upd H1 s2.heap.objs.size (.lst [])) b ∧ b < s3.heap.objs.size := fun b hb => by
      obtain ⟨o, ho, _⟩ := T.obj _ _ st2 b hb
      have hlt := Heap.lt_size ho
      refine ⟨⟨?_, (f2 b hb).2⟩, by rw [hsz]; exact Nat.lt_succ_of_lt hlt⟩
      rw [Be (Nat.ne_of_lt hlt)]
      exact (f2 b hb).1
    have k13 : g.Keep r1 H1 (r1 ++ [s2.heap.objs.size]) (upd H1 s2.heap.objs.size (.lst [])) := (S1.laid hn3 (o := .lst []) (c := .lst []) ⟨[], cj, by simp [RepL]⟩).1
    have S3 : g.Sto (r1 ++ [s2.heap.objs.size]) (st1 ++ [.lst []]) (upd H1 s2.heap.objs.size (.lst [])) := (S1.laid hn3 (o := .lst []) (c := .lst []) ⟨[], cj, by simp [RepL]⟩).2
    have acc_at : (r1 ++ [s2.heap.objs.size])[st1.length]? = some s2.heap.objs.size := by rw [← S1.len]; simp
    generalize hH3 : upd H1 s2.heap.objs.size (.lst []) = H3 at *
    generalize hac : s2.heap.objs.size = ac at *
    generalize hr3 : r1 ++ [ac] = r3 at *
    refine wpAny_newFunctionEnv hcell (by intro y hy; simp at hy) (fun h₁ hns₁ hsb₁ => ?_) hkind
    have hk1 : ∀ b o, s3.heap.get? b = some o → h₁.get? b = some o := fun b o e => hsb₁.extBut b o (Nat.ne_of_lt (Heap.lt_size e)) (Heap.get?_push_of_some _ e)
    have J0 := Qh (N := N) (nl := nl) (fv := fv) (tk := s3.toks + ([] : List (Str × Value)).length) hkind C hN hfv I3 hfp hns₁ hk1
    have n0 := qj (n.mono (k1.trans k13)) nl fv
    generalize hsg0 : (List.replicate nl none ++ fv.map fun k => (sg[k]?).join : L2.St) = sg0 at J0 n0
    have tn0 : tn 0 h₁ := T.keep _ _ _ st2 fun b _ o e => hk1 b o (up3 b o e)
    have bfp : ∀ {H' : Hp}, (∀ b ∈ fp, H' b = none) → ∀ b ∈ fp, cy (cxG X N scope cl s3.heap.objs.size s3 H3 fp (X.pn ++ pins)) [] H' b := fun hn b hb => by
      obtain ⟨f, hlt⟩ := hfp b hb
      refine ⟨hn b hb, fun z => ?_, Mg I3 f, .inl hb, fun y c h => f.2.2.2.2.1 y c (C.sub y c h), fun p hp => f.2.2.2.2.2 p (by rw [List.append_nil] at hp; exact hp)⟩
      have : s3.heap.objs.size < s3.heap.objs.size := by rw [z] at hlt; exact hlt
      exact Nat.lt_irrefl _ this
    have loop : codeAny (model X.prog X.w) X.A (.compLoop (.ListComp elt [⟨target, iter, ifs, 0⟩] scope pos) 0 (.ref it) (.ref ac) (Mf X scope cl s3.heap.objs.size))
        (compPost (model X.prog X.w) X.A X.xe use Qv (.ref ac) s3.heap.objs.size)
        { s3 with heap := h₁, toks := s3.toks + ([] : List (Str × Value)).length } := by
      refine yz (fun mm s' => ∃ i rho' st' H' sg', L2.Inv (cxG X N scope cl s3.heap.objs.size s3 H3 fp (X.pn ++ pins)) [] sg' H' s' ∧ tn i s'.heap ∧ (∀ b ∈ fp, H' b = none) ∧ g.Keep r3 H3 rho' H' ∧ g.Sto rho' st' H' ∧ g.Env rho' H' (cq nl fv env) sg' ∧ mm = xs.length - i ∧ i ≤ xs.length ∧
        compLoop xs p st1.length body (xs.drop i) st' = .ok () stf) ?_ xs.length ⟨0, r3, _, H3, sg0, J0, tn0, fun b hb => (hfp b hb).1.1, .refl _ _, S3, n0, by simp, Nat.zero_le _, hloop⟩
      rintro mm s' ⟨i, rho', st', H', sg', I', tn', fr', kk, S', n', rfl, hi, hl'⟩
      have hst : stays st' p xs = true := by
        cases z : stays st' p xs with
        | true => rfl
        | false =>
          exfalso
          cases e : xs.drop i with
          | nil => rw [e] at hl'; simp only [compLoop, z] at hl'; cases hl'
          | cons d t => rw [e] at hl'; simp only [compLoop, z] at hl'; cases hl'
      obtain ⟨jstop, jgo⟩ := hJ rho' st' H' (k13.trans kk) S' hst
      by_cases hlt : i < xs.length
      · obtain ⟨hgo, hy⟩ := jgo i xs[i] (List.getElem?_eq_getElem hlt)
        rw [List.drop_eq_getElem_cons hlt] at hl'
        simp only [compLoop, hst, if_true] at hl'
        refine thn (T.item (cxG X N scope cl s3.heap.objs.size s3 H3 fp (X.pn ++ pins)) rfl rfl rfl hc i [] s' sg' H' _ I' (bfp fr') tn' hgo) fun r s4 ⟨u, hr4, h4⟩ => ?_
        subst hr4
        refine thn h4 fun _ s5 ⟨x5, H5, I5, r5, y5, tn5, fr5⟩ => ?_
        obtain ⟨e5, rx5⟩ := hy x5 H5 y5
        have k5 : g.Keep rho' H' rho' H5 := bg.keep e5 rho'
        have kk := kk.trans k5
        have S' := S'.same e5
        have n' := n'.mono k5
        have I5' := I5.pinned (bfp fr5) (T.obj _ _ tn5)
        obtain ⟨env', es⟩ : ∃ env', store tgs one xs[i] (cq nl fv env) = some env' := by
          cases es : store tgs one xs[i] (cq nl fv env) with
          | some env' => exact ⟨env', rfl⟩
          | none =>
            exfalso
            have : body xs[i] st' = .bad := by rw [← hB]; unfold Mh; rw [es]
            rw [this] at hl'; cases hl'
        have hbody : body xs[i] st' = (Cz g.tab g.call ifs' env' st').bind fun b st => if b then (Ad g.tab g.call elt' env' st).bind fun y st => .ok (some y) st else .ok none st := by
          rw [← hB]; unfold Mh; rw [es]
        rw [hbody] at hl'
        obtain ⟨hel, hhi⟩ := qi es htg
        refine wpAny_mono (hg s3.heap.objs.size s3 H3 fp (X.pn ++ pins) _ s5 sg' H5 x5 u (fun sg6 H6 => H6 = H5 ∧ g.Env rho' H6 env' sg6) I5' r5 (Ic (g := g) es rx5 n' fun sg6 n6 => ⟨rfl, n6⟩)) (fun _ s6 h6 => ?_) (fun _ _ z => z.elim)
        obtain ⟨sg6, H6, I6, e6, n6⟩ := h6
        subst e6
        obtain ⟨b, st2, eb, hl'⟩ : ∃ b st2, Cz g.tab g.call ifs' env' st' = .ok b st2 ∧ (match (if b then (Ad g.tab g.call elt' env' st2).bind fun y st => .ok (some y) st else .ok none st2 : Res (Option D)) with
            | .ok (some y) st' => (match st'[st1.length]? with
              | some (.lst ys) => if ys.length < sizeLine then compLoop xs p st1.length body (xs.drop (i + 1)) (st'.set st1.length (.lst (ys ++ [y]))) else .bad
              | _ => .bad)
            | .ok none st' => compLoop xs p st1.length body (xs.drop (i + 1)) st'
            | _ => .bad) = Res.ok () stf := by
          cases eb : Cz g.tab g.call ifs' env' st' with
          | ok b st2 => rw [eb] at hl'; exact ⟨b, st2, rfl, hl'⟩
          | exc c st2 => rw [eb] at hl'; cases hl'
          | bad => rw [eb] at hl'; cases hl'
        refine wpAny_mono (ht s3.heap.objs.size s3 H3 fp (X.pn ++ pins) _ s6 sg6 H6 (fun b' H7 => b' = b ∧ ∃ rho7, g.Keep rho' H6 rho7 H7 ∧ g.Sto rho7 st2 H7) I6 ⟨rho', st', env', S', n6, ?_⟩) (fun ok s7 h7 => ?_) (fun _ _ z => z.elim)
        · show RQ (g.with fun _ _ _ => False) (Cz g.tab g.call ifs' env' st') _ rho' H6
          rw [eb]
          exact fun H7 rho7 k7 s7 => ⟨rfl, rho7, k7, s7⟩
        obtain ⟨H7, I7, e7, rho7, k7, S7⟩ := h7
        subst e7
        have n7 : g.Env rho7 H7 env' sg6 := n6.mono k7
        have done : ∀ (rho9 : List Addr) (st9 : Sto) (H9 : Hp) (s9 : Shared), L2.Inv (cxG X N scope cl s3.heap.objs.size s3 H3 fp (X.pn ++ pins)) ([] ++ Hu fp s5.heap) sg6 H9 s9 → g.Keep rho7 H7 rho9 H9 → g.Sto rho9 st9 H9 → compLoop xs p st1.length body (xs.drop (i + 1)) st9 = .ok () stf →
            ∃ m, m < xs.length - i ∧ ∃ i rho' st' H' sg', L2.Inv (cxG X N scope cl s3.heap.objs.size s3 H3 fp (X.pn ++ pins)) [] sg' H' s9 ∧ tn i s9.heap ∧ (∀ b ∈ fp, H' b = none) ∧ g.Keep r3 H3 rho' H' ∧ g.Sto rho' st' H' ∧ g.Env rho' H' (cq nl fv env) sg' ∧ m = xs.length - i ∧ i ≤ xs.length ∧ compLoop xs p st1.length body (xs.drop i) st' = .ok () stf := by
          intro rho9 st9 H9 s9 I9 k9 S9 hl9
          refine ⟨xs.length - (i + 1), by omega, i + 1, rho9, st9, H9, sg6, I9.unpinned, T.keep _ _ _ tn5 fun b hb o e => (I9.pin (b, o) (List.mem_append_right _ (List.mem_append_right _ (Hv hb e)))).1, fun b hb => ?_, (kk.trans k7).trans k9, S9, Qj rfl hel hhi (n7.mono k9), rfl, hlt, hl9⟩
          obtain ⟨o, e, d⟩ := T.obj _ _ tn5 b hb
          exact (I9.pin (b, o) (List.mem_append_right _ (List.mem_append_right _ (Hv hb e)))).2.1
        cases ok with
        | false =>
          rw [if_neg Bool.false_ne_true]
          simp only [Bool.false_eq_true, if_false] at hl'
          exact done rho7 st2 H7 s7 I7 (.refl _ _) S7 hl'
        | true =>
          rw [if_pos rfl]
          simp only [if_true] at hl'
          obtain ⟨y, st4, ee, hl'⟩ : ∃ y st4, Ad g.tab g.call elt' env' st2 = .ok y st4 ∧ (match st4[st1.length]? with
              | some (.lst ys) => if ys.length < sizeLine then compLoop xs p st1.length body (xs.drop (i + 1)) (st4.set st1.length (.lst (ys ++ [y]))) else .bad
              | _ => .bad) = Res.ok () stf := by
            cases ee : Ad g.tab g.call elt' env' st2 with
            | ok y st4 => rw [ee] at hl'; exact ⟨y, st4, rfl, hl'⟩
            | exc c st4 => rw [ee] at hl'; cases hl'
            | bad => rw [ee] at hl'; cases hl'
          obtain ⟨ys, ey, hys, hl'⟩ : ∃ ys, st4[st1.length]? = some (.lst ys) ∧ ys.length < sizeLine ∧ compLoop xs p st1.length body (xs.drop (i + 1)) (st4.set st1.length (.lst (ys ++ [y]))) = .ok () stf := by
            split at hl'
            · rename_i ys ey
              split at hl'
              · rename_i hys; exact ⟨ys, ey, hys, hl'⟩
              · cases hl'
            · cases hl'
          refine wpAny_mono (he s3.heap.objs.size s3 H3 fp (X.pn ++ pins) _ s7 sg6 H7 (fun w H8 => ∃ rho8, g.Keep rho7 H7 rho8 H8 ∧ g.Sto rho8 st4 H8 ∧ g.Rep rho8 H8 y w) I7 ⟨rho7, st2, env', S7, n7, ?_⟩) (fun yv s8 h8 => ?_) (fun _ _ z => z.elim)
          · show RQ (g.with fun _ _ _ => False) (Ad g.tab g.call elt' env' st2) _ rho7 H7
            rw [ee]
            exact fun w H8 rho8 k8 s8 r8 => ⟨rho8, k8, s8, r8⟩
          obtain ⟨w, H8, I8, rw8, rho8, k8, S8, rp8⟩ := h8
          obtain ⟨a8, us, hr8, hH8, rl8⟩ := Gs S8 ey
          rw [k8.at (k7.at (kk.at acc_at))] at hr8; cases hr8
          have hrep : g.RepL rho8 H8 (ys ++ [y]) (us ++ [w]) := rl8.append (by simp only [RepL]; exact ⟨w, [], rfl, rp8, rfl⟩)
          obtain ⟨k9, S9⟩ := S8.wrote (k8.at (k7.at (kk.at acc_at))) ey hH8 hrep
          refine wpAny_mono (Ox (X := cxG X N scope cl s3.heap.objs.size s3 H3 fp (X.pn ++ pins)) _ s8 _ H8 (.ref ac) [w] (.ref ac) [yv] (fun _ H9 => H9 = upd H8 ac (.lst (us ++ [w]))) I8 rfl (.cons rw8 .nil) ⟨ac, us, w, rfl, rfl, hH8, by rw [← rl8.length]; exact hys, rfl⟩) (fun _ s9 h9 => ?_) (fun _ _ z => z.elim)
          obtain ⟨_, H9, I9, _, e9⟩ := h9
          subst e9
          exact done rho8 _ _ s9 I9 (k8.trans k9) S9 hl'
      · have ei : i = xs.length := by omega
        subst ei
        refine thn (T.done (cxG X N scope cl s3.heap.objs.size s3 H3 fp (X.pn ++ pins)) rfl rfl rfl hc xs.length [] s' sg' H' _ I' (bfp fr') tn' jstop) fun r s4 ⟨hr4, I4⟩ => ?_
        subst hr4
        rw [List.drop_eq_nil_of_le (Nat.le_refl _)] at hl'
        simp only [compLoop, hst, if_true] at hl'
        cases hl'
        obtain ⟨m4, hn4, _⟩ := I4.loc
        refine hfin ac s3.heap.objs.size H' s4 ⟨m4, hn4⟩ (I3.fpOk (Nat.le_refl _) I4.free) (fun h' sb => ?_) (q1 (.ref ac) H' rho' ((k1.trans k13).trans kk) S' (Bl.mpr ⟨ac, kk.at acc_at, rfl⟩))
        have u4 : Un (frs X.stack) fp H3 H' s3.heap s4.heap := I4.base
        have hL : ∀ b o, s3.heap.get? b = some o → b ≠ s3.heap.objs.size := fun b o e => Nat.ne_of_lt (Heap.lt_size e)
        have fL : H' s3.heap.objs.size = none := I4.free
        refine I3.call' (s' := { s4 with heap := h' }) (ch := fp) I4.os ⟨fun b o e n hb hx => (sb.2 b (hL b o e)).trans (u4.keep b o e n hb hx), fun b o e n hb hx => ?_, u4.free, fun b o e hx => ?_, u4.tups, u4.frzs, u4.tbls⟩ (fun b o e => ?_) I4.bare fun b hb => ?_
        · obtain ⟨sl, e1⟩ := u4.slot b o e n hb hx
          exact ⟨sl, (sb.2 b (hL b o e)).trans e1⟩
        · obtain ⟨o', e1⟩ := u4.there b o e hx
          exact ⟨o', (sb.2 b (hL b o e)).trans e1⟩
        · refine (I4.hok b o e).stay (fun c u hc' g' => (sb.2 c ?_).trans g') (fun _ h => h) fun _ _ h => h
          intro z
          rcases hc' with rfl | hc'
          · rw [z, fL] at e; cases e
          · rw [z, fL] at hc'; cases hc'
        · obtain ⟨f, _⟩ := hfp b hb
          exact ⟨f.2.2.2.1, f.2.1, f.2.2.2.2.1, f.2.2.2.2.2⟩
    exact codeAny_compStart_list loop (T.self _ 0 _ _ _ tn0 loop)
  · refine hwi rho st env sg H _ S n ?_
    revert q
    cases Ad g.tab g.call it' env st with
    | bad => exact fun q => q
    | exc c st1 => exact fun q => q
    | ok d st1 =>
      simp only [bo]
      intro q
      cases ei : eg k st1 d with
      | none => rw [ei] at q; exact q.elim
      | some xp =>
        obtain ⟨xs, p⟩ := xp
        rw [ei] at q
        exact ⟨xs, p, ei, fun H1 r1 J k1 s1 hJ => ⟨r1, st1, xs, p, k1, s1, hJ, RQ.mono k1 q fun _ _ z => z⟩⟩
theorem ie (hK : X.K = g.K) (hc : X.calm = true) (hkind : scope.kind = .function) (hcell : ∀ y ∈ scope.names, y.2 ≠ .cell)
    (hnames : ∀ y ∈ scope.names, y.2 = .local → scope.names.lookup y.1 = some .local) (hclos : closureFor scope X.env = pure cl) (C : Clos X scope cl) (hN : N.length = nl + fv.length)
    (hfv : ∀ j k, fv[j]? = some k → ∃ x c, N[nl + j]? = some x ∧ X.N[k]? = some x ∧ cl.lookup x = some c ∧ (X.env.scope.names.lookup x = some .cell ∨ X.env.scope.names.lookup x = some .free) ∧ ((relabel scope X.env).names.lookup x = some .cell ∨ (relabel scope X.env).names.lookup x = some .free))
    (htg : ∀ i ∈ tgs, i < nl) (hi : SdI g X target iter k it') (hg : ∀ L s0 H0 fp pn, PG (cxG X N scope cl L s0 H0 fp pn) target (tg g.K tgs one))
    (ht : ∀ L s0 H0 fp pn, PTs (cxG X N scope cl L s0 H0 fp pn) ifs (kg (g.with fun _ _ _ => False) ifs')) (he : ∀ L s0 H0 fp pn, Sd (g.with fun _ _ _ => False) (cxG X N scope cl L s0 H0 fp pn) elt elt')
    (hs : ∀ x, foldedSetIterable iter X.env x = pure x := by intro _; rfl) :
    Sd g X (.ListComp elt [⟨target, iter, ifs, 0⟩] scope pos) (.comp k one nl tgs fv it' ifs' elt') := by
  intro pins s sg H Q I q
  rw [eval_ListComp]
  exact Za hK hc hkind hcell hnames hclos C hN hfv htg hi hg ht he hs I q fun ac C H' s4 ⟨m, hn⟩ _ hI hq => ⟨m, hn, fun h' sb => ⟨.ref ac, H', hI h' sb, rfl, hq⟩⟩
variable {g : G} {X : Cx} {pos : Pos} {F : Nat}
def Its (z : Str) : It := ⟨fun i _ => i < z.cps.size, fun i H x H' => H' = H ∧ ∃ c, z.cps[i]? = some c ∧ x = .str ⟨#[c]⟩, fun i _ => z.cps.size ≤ i⟩
theorem zb {P : Program} {w : World} {K : PySem.W.Frag} {tg : Expr} (it : Addr) (z : Str) (t : Tok) (nm : String) (hnm : ["enumerate", "zip", "dict_itemiterator", "dict_reverseitemiterator", "odict_iterator", "itertools.zip_longest", "itertools.pairwise"].contains nm = false)
    (W : ∀ A' : Around, A'.handled = none → Walks P w A' it [it] [it] z.cps.size (SignAt z) (fun i h => h.IsStrIter it nm z t i))
    (hself : ∀ (A : Around) (i : Nat) (s : Shared) (Q : Value → Shared → Prop) (E : Value → Shared → Prop), s.heap.IsStrIter it nm z t i → Q (.ref it) s → wpAny (model P w) A (pyIter (.ref it)) Q E s) : Turn P w K tg (Its z) [it] it (fun i h => i ≤ z.cps.size ∧ h.IsStrIter it nm z t i) where
  mem := by simp
  obj := fun i h st b hb => by
    have e : b = it := by simpa using hb
    subst e
    obtain ⟨_, o, e, c, d⟩ := st
    exact ⟨o, e, fun v z => by rw [d] at z; cases z⟩
  keep := fun i h h' st k => let ⟨hi, o, ho, r⟩ := st; ⟨hi, o, k it (by simp) o ho, r⟩
  item := by
    intro X hP hw hK hc i pins s sg H E I hf st hg
    subst hP hw hK
    have hg : i < z.cps.size := hg
    obtain ⟨f0, f1, f2, f3, f4, f5⟩ := hf it (by simp)
    refine (W X.A (I.ok.hd hc)).item i s _ _ hg st.2 fun v h' tk hv st' kk => ?_
    obtain ⟨c, u, hcv, rfl⟩ := hv
    have I1 : Inv X pins sg H { s with heap := h', toks := tk } := I.turned (fun b o hb e => kk b o (by simpa using hb) e) f0 f1 f3 f4 f5
    obtain ⟨o, e, cc, d⟩ := id st'
    exact ⟨_, rfl, jq (s := { s with heap := h', toks := tk }) (n := nm) e cc d hnm ⟨.str ⟨#[c]⟩, H, I1, ⟨u, rfl⟩, ⟨rfl, c, hcv, rfl⟩, ⟨hg, st'⟩, fun b hb => (hf b hb).1⟩⟩
  done := by
    intro X hP hw hK hc i pins s sg H E I hf st hg
    subst hP hw hK
    have hg : z.cps.size ≤ i := hg
    have hi : i = z.cps.size := Nat.le_antisymm st.1 hg
    subst hi
    obtain ⟨f0, f1, f2, f3, f4, f5⟩ := hf it (by simp)
    exact (W X.A (I.ok.hd hc)).done s _ _ st.2 fun h' tk kk => ⟨rfl, I.turned (fun b o hb e => kk b o (by simpa using hb) e) f0 f1 f3 f4 f5⟩
  self := fun A i s Q E st h => hself A i s Q E st.2 h
def Zb (tl : TE) : TI := fun sg H R => tl sg H fun x H1 => ∃ z, x = .str z ∧ R (Its z) H1
theorem zc {tg l : Expr} {tl : TE} (hl : PE X l tl) : PI X tg l (Zb tl) := by
  intro pins s sg H R I h
  refine thn (hl pins s sg H _ I h) fun v s1 ⟨x, H1, I1, r1, q1⟩ => ?_
  obtain ⟨z, rfl, q⟩ := q1
  obtain ⟨t, rfl⟩ := (show ∃ t, v = Value.str z t from r1)
  have fin : ∀ (o : Obj) (nm : String), o.cls = .type nm → o.data = .fields #[.str z t, .int 0 0] → ["enumerate", "zip", "dict_itemiterator", "dict_reverseitemiterator", "odict_iterator", "itertools.zip_longest", "itertools.pairwise"].contains nm = false → o.isFreed = false →
      (∀ A' : Around, A'.handled = none → Walks X.prog X.w A' s1.heap.objs.size [s1.heap.objs.size] [s1.heap.objs.size] z.cps.size (SignAt z) (fun i h => h.IsStrIter s1.heap.objs.size nm z t i)) →
      (∀ (A : Around) (i : Nat) (s : Shared) (Q : Value → Shared → Prop) (E : Value → Shared → Prop), s.heap.IsStrIter s1.heap.objs.size nm z t i → Q (.ref s1.heap.objs.size) s → wpAny (model X.prog X.w) A (pyIter (.ref s1.heap.objs.size)) Q E s) →
      PIE X pins sg tg R (.ref s1.heap.objs.size) { s1 with heap := s1.heap.push o } := by
    intro o nm hc hd hnm hfr W hself
    refine ⟨s1.heap.objs.size, [s1.heap.objs.size], _, Its z, H1, rfl, I1.kept (t' := s1.toks) fun b o e => Heap.get?_push_of_some _ e, zb _ z t nm hnm W hself, ⟨Nat.zero_le _, o, Heap.get?_push_size _ hfr, hc, hd⟩, fun b hb => ?_, q⟩
    have e : b = s1.heap.objs.size := by simpa using hb
    subst e
    exact I1.fpOk (Nat.le_refl _) (I1.hok.fresh (Nat.le_refl _))
  cases ha : z.cps.all (· < 128)
  · exact wpAny_pyIter_wide ha (fin _ "str_iterator" rfl rfl (by decide) rfl (fun A' hA => Walks.strWide hA _ z t) fun A i s Q E st h => wpAny_pyIter_striter_wide st h)
  · exact wpAny_pyIter_ascii ha (fin _ "str_ascii_iterator" rfl rfl (by decide) rfl (fun A' hA => Walks.strAscii hA _ z t) fun A i s Q E st h => wpAny_pyIter_striter_ascii st h)
theorem Zc {target iter : Expr} {it' : E} (h : Sd g X iter it') : SdI g X target iter 3 it' := by
 refine ⟨_, zc h, fun rho st env sg H R s n q => ?_⟩
 refine ⟨rho, st, env, s, n, ?_⟩
 revert q
 cases Ad g.tab g.call it' env st with
 | bad => exact fun q => q
 | exc c st1 => exact fun q => q
 | ok d st1 =>
  rintro ⟨xs, p, e, q⟩ v H1 r1 k1 s1 rv
  cases d with
  | str z =>
   simp only [eg] at e
   split at e
   · cases e
     refine ⟨z, bu.mp rv, q H1 r1 _ k1 s1 ?_⟩
     intro rho st H kk s hst
     refine ⟨by show z.cps.size ≤ _; simp, fun i d hd => ?_⟩
     rw [List.getElem?_map] at hd
     cases ec : z.cps.toList[i]? with
     | none => rw [ec] at hd; cases hd
     | some c =>
      rw [ec] at hd; cases hd
      have hi : i < z.cps.size := by simpa using (List.getElem?_eq_some_iff.mp ec).1
      refine ⟨hi, fun x H' y => mh y.1 ?_⟩
      obtain ⟨_, c2, e2, rfl⟩ := y
      have : c2 = c := by
       have e3 : z.cps.toList[i]? = some c2 := by simpa using e2
       rw [ec] at e3; cases e3; rfl
      rw [this]
      exact bu.mpr rfl
   · cases e
  | _ => cases e
end DD
namespace DD
open PySem PySem.Spec L2
open PyProof.Rows hiding St
variable {g : G} {X : Cx} {a b c : Expr} {a' b' c' : E} {pos : Pos} {rest es : List Expr} {es' : Es} {F : Nat}
end DD
namespace DD
open PySem PySem.Spec L2
variable {g : G} {X : Cx} {pos apos cpos : Pos} {F : Nat} {a b c : Expr} {a' b' c' : E}
theorem Kg : ∀ {kvs : List (D × D)} {ws : List (Key × V)}, az g.K rho H kvs ws → kvs.length = ws.length
 | [], ws, h => by simp only [az] at h; subst h; rfl
 | (x, d) :: r, ws, h => by
  simp only [az] at h
  obtain ⟨k, v, t, rfl, _, _, q⟩ := h
  simp [Kg q]
theorem qk {rho : List Addr} {H : Hp} {a : D} {k : Key} (ha : kD a = some k) : ∀ {kvs : List (D × D)} {ws : List (Key × V)}, az g.K rho H kvs ws → (kvs.any fun p => decide (p.1 = a)) = ws.any fun p => decide (p.1 = k)
 | [], ws, h => by simp only [az] at h; subst h; rfl
 | (x, d) :: r, ws, h => by
  simp only [az] at h
  obtain ⟨k', v, t, rfl, hk, _, q⟩ := h
  simp only [List.any_cons, qk ha q]
  congr 1
  by_cases e : x = a
  · subst e; rw [ha] at hk; cases hk; simp
  · have : k' ≠ k := fun z => e (kc (by rw [hk, z]) ha)
    simp [e, this]
theorem Qk {rho : List Addr} {H : Hp} {a y : D} {k : Key} {v : V} (ha : kD a = some k) (ry : g.Rep rho H y v) : ∀ {kvs : List (D × D)} {ws : List (Key × V)}, az g.K rho H kvs ws → az g.K rho H (kvs.map fun p => if p.1 = a then (p.1, y) else p) (ws.map fun p => if p.1 = k then (p.1, v) else p)
 | [], ws, h => by simp only [az] at h; subst h; simp [az]
 | (x, d) :: r, ws, h => by
  simp only [az] at h
  obtain ⟨k', v', t, rfl, hk, rd, q⟩ := h
  have ih := Qk ha ry q
  by_cases e : x = a
  · subst e; rw [ha] at hk; cases hk
    simp only [List.map_cons, if_true, az]
    exact ⟨k, v, _, rfl, ha, ry, ih⟩
  · have ne : k' ≠ k := fun z => e (kc (by rw [hk, z]) ha)
    simp only [List.map_cons, if_neg e, if_neg ne, az]
    exact ⟨k', v', _, rfl, hk, rd, ih⟩
theorem ql {rho : List Addr} {H : Hp} {a y : D} {k : Key} {v : V} (ha : kD a = some k) (ry : g.Rep rho H y v) : ∀ {kvs : List (D × D)} {ws : List (Key × V)}, az g.K rho H kvs ws → az g.K rho H (kvs ++ [(a, y)]) (ws ++ [(k, v)])
 | [], ws, h => by simp only [az] at h; subst h; simp only [List.nil_append, az]; exact ⟨k, v, [], rfl, ha, ry, rfl⟩
 | (x, d) :: r, ws, h => by
  simp only [az] at h
  obtain ⟨k', v', t, rfl, hk, rd, q⟩ := h
  simp only [List.cons_append, az]
  exact ⟨k', v', _, rfl, hk, rd, ql ha ry q⟩
theorem Ql {rho : List Addr} {H : Hp} {a y : D} {k : Key} {v : V} (ha : kD a = some k) (ry : g.Rep rho H y v) {kvs : List (D × D)} {ws : List (Key × V)} (h : az g.K rho H kvs ws) : az g.K rho H (Fd kvs a y) (putK ws k v) := by
 unfold Fd putK
 rw [qk ha h]
 split
 · exact Qk ha ry h
 · exact ql ha ry h
theorem qm : ∀ {more : List (D × D)} {ms : List (Key × V)} {kvs : List (D × D)} {ws : List (Key × V)}, az g.K rho H more ms → az g.K rho H kvs ws → az g.K rho H (Lx kvs more) (ia ws ms)
 | [], ms, kvs, ws, h, q => by simp only [az] at h; subst h; exact q
 | (x, d) :: r, ms, kvs, ws, h, q => by
  simp only [az] at h
  obtain ⟨k, v, t, rfl, hk, rd, h2⟩ := h
  show az g.K rho H (Lx (Fd kvs x d) r) (ia (putK ws k v) t)
  exact qm h2 (Ql hk rd q)
theorem Qm (s : g.Sto rho st H) (hr : rho[n]? = some p) (he : st[n]? = some (.dct kvs)) (hH : H p = some (.dK ws)) (h2 : az g.K rho H kvs2 ws2) :
    g.Keep rho H rho (upd H p (.dK ws2)) ∧ g.Sto rho (st.set n (.dct kvs2)) (upd H p (.dK ws2)) := s.wroteC hr he rfl hH ⟨fun _ => nofun, fun _ _ => nofun⟩ fun H3 eH kk => ⟨ws2, eH, h2.mono kk⟩
theorem zd {pins : List (Addr × Obj)} {sg : L2.St} {H : Hp} {s : Shared} {A : Around} {E : Value → Shared → Prop} {p : Addr} {kvs : List (Key × V)} {k : Key} {v : V} {u r : Value} {Q : Unit → Shared → Prop} (I : Inv X pins sg H s) (e : H p = some (.dK kvs)) (l : kvs.length < sizeLine) (ry : RelV (kV k) u) (rv : RelV v r)
    (h : ∀ s', Inv X pins sg (upd H p (.dK (putK kvs k v))) s' → Q () s') : wpAny (model X.prog X.w) A (dictSet p u r) Q E s := by
  obtain ⟨z, hd, vs, rel, dd⟩ := Lu I.hok e
  have hz : vs.length ≤ sizeLine := by rw [← rel.length]; exact z
  have hl : (putK kvs k v).length ≤ sizeLine := by have := Oz kvs k v; omega
  refine wpAny_dictSet_pairs (hsz := hz) (Ju ry) dd fun h' dd' hs => h _ ?_
  have he : ∃ q, h'.get? p = some q := let ⟨q, _, _, hq, _⟩ := dd'; ⟨q, hq⟩
  exact pd I (by rw [e]; exact True.intro) hs he (Pd hl hd (rel.put k rv) dd')
theorem Qn (hm : m = .get ∨ m = .upd) (h : rdy m st d = true) : ∃ n kvs, d = .loc n ∧ Cc st n = some kvs := by
 cases d with
 | loc n =>
  have h : (Cc st n).isSome = true := by rcases hm with rfl | rfl <;> exact h
  cases e : Cc st n with
  | none => rw [e] at h; cases h
  | some kvs => exact ⟨n, kvs, rfl, e⟩
 | _ => rcases hm with rfl | rfl <;> cases h
theorem qo (hu : X.A.units + 64 < cLine) (ho : Sd g X o o') (he : Sd g X e e') (m : M1 X o "get" apos e cpos) : Sd g X (.Call (.Attribute o "get" apos) [e] [] cpos) (.mt .get o' (.cons e' .nil)) :=
 bb (Xc (by omega) ho he m) fun sg H Q q => by
  obtain ⟨rho, st, env, s, n, q⟩ := q
  simp only [Ad, Au, bo, bind_assoc] at q
  refine step s n q fun d st1 x H1 r1 k1 s1 n1 rp q1 => ?_
  split at q1
  · rename_i hl
    obtain ⟨j, kvs, rfl, ed⟩ := Qn (.inl rfl) hl
    obtain ⟨p, ws, hr, _, hH, kv⟩ := ic s1 ed
    obtain ⟨p2, hr2, rfl⟩ := Bl.mp rp
    rw [hr] at hr2; cases hr2
    refine ⟨p, rfl, .inl ⟨ws, .inl hH⟩, step s1 n1 q1 fun y st2 w H2 r2 k2 s2 n2 ry q2 => ?_⟩
    simp only [mtD] at q2
    split at q2
    · rename_i kvs2 ed2
      split at q2
      · rename_i hk
        obtain ⟨k, ek⟩ := ma hk
        obtain ⟨p3, ws2, hr3, _, hH2, kv2⟩ := ic s2 ed2
        rw [k2.at hr] at hr3; cases hr3
        cases Ma ry ek
        refine ⟨Cp ws2 k, Gm.k hH2, ?_⟩
        obtain ⟨l1, l2⟩ := Pt ek kv2
        have q2 : ar g rho H Q ((bp kvs2 y).getD .non) st2 := q2
        cases z : bp kvs2 y with
        | none => rw [z] at q2; rw [l2 z]; exact q2 _ H2 r2 (k1.trans k2) s2 (dh.mpr rfl)
        | some d => rw [z] at q2; obtain ⟨v, e1, rv⟩ := l1 d z; rw [e1]; exact q2 _ H2 r2 (k1.trans k2) s2 rv
      · exact q2.elim
    · exact q2.elim
  · exact q1.elim
def Zd : V → List V → Hp → VK → Prop := fun x vs H Q => ∃ p o kvs more, x = .ref p ∧ vs = [.ref o] ∧ p ≠ o ∧ H p = some (.dK kvs) ∧ H o = some (.dK more) ∧ kvs.length + more.length ≤ sizeLine ∧ Q .non (upd H p (.dK (ia kvs more)))
theorem ze : MtR X "dict.update" Zd := by
 intro pins s sg H x vs v us Q I rx rv h
 obtain ⟨p, o, kvs, more, rfl, rfl, hne, hp, ho, hz, q⟩ := h
 cases rx
 obtain ⟨u, rfl, ru⟩ := rv.one
 cases ru
 obtain ⟨z, hd, ws, rel, dd⟩ := Lu I.hok hp
 obtain ⟨z2, hd2, ms, rel2, dd2⟩ := Lu I.hok ho
 refine call_meetsIn PySem.F.slot_dict_update dd.typeIs PySem.F.entry_dict_update (PySem.F.args_dict_update_2 _ _) (meets_dict_update (cp X.prog X.w) p o hne hd2) ⟨ws, ms, dd, dd2, by rw [← rel.length, ← rel2.length]; exact hz, fun h' dd' _ hs => ⟨.non, _, ?_, rfl, q⟩⟩
 have he : ∃ q, h'.get? p = some q := let ⟨q, _, _, hq, _⟩ := dd'; ⟨q, hq⟩
 exact pd (t' := s.toks) I (by rw [hp]; exact True.intro) hs he (Pd (Nat.le_trans (pe more kvs) hz) hd (rel2.merge rel) dd')
theorem Qo (ho : Sd g X o o') (hv : Sd g X v v') (hbase : attributeBase o "update" X.env (eval o X.env) = eval o X.env := by rfl)
    (hfew : ((backTo cpos (starEach [v] X.env)).all (fun x => !x.1) && (backToKw cpos (keywordEach [] X.env)).all (fun x => x.1.isSome) && decide ([v].length + ([] : List Keyword).length + (if ([] : List Keyword).isEmpty then 0 else 1) < 30)) = true := by rfl)
    (hline : (apos.endLine == cpos.line) = true := by rfl) (hs : starEach [v] X.env = (false, eval v X.env) :: starEach [] X.env := by rfl) : Sd g X (.Call (.Attribute o "update" apos) [v] [] cpos) (.mt .upd o' (.cons v' .nil)) :=
  bb (ox PySem.F.plainAttrs_dict PySem.F.slot_dict_update PySem.F.type_dict_update ze ho (aa hv Ab hs) hbase hfew hline hs rfl) fun sg H Q q => by
    obtain ⟨rho, st, env, s, n, q⟩ := q
    simp only [Ad] at q
    refine step s n q fun d st1 x H1 r1 k1 s1 n1 rp q1 => ?_
    split at q1
    · rename_i hl
      obtain ⟨j, kvs, rfl, ed⟩ := Qn (.inr rfl) hl
      obtain ⟨p, ws, hr, _, hH, kv⟩ := ic s1 ed
      obtain ⟨p2, hr2, rfl⟩ := Bl.mp rp
      rw [hr] at hr2; cases hr2
      refine ⟨.inr (.inr (.inl ⟨rfl, .inl ⟨ws, hH⟩⟩)), eh s1 n1 q1 fun ds st2 vs H2 r2 k2 s2 n2 rps q2 => ?_⟩
      match ds, q2 with
      | [.loc m], q2 =>
        obtain ⟨w, rfl, rw1⟩ := Fx rps
        simp only [mtD] at q2
        split at q2
        · rename_i kvs2 more e1 e2
          split at q2
          · rename_i hz
            obtain ⟨p3, ws2, hr3, hc3, hH2, kv2⟩ := ic s2 e1
            rw [k2.at hr] at hr3; cases hr3
            obtain ⟨p4, ms, hr4, hc4, hH4, kv4⟩ := ic s2 e2
            obtain ⟨p5, hr5, rfl⟩ := Bl.mp rw1
            rw [hr4] at hr5; cases hr5
            have hne : p ≠ p4 := fun z => hz.1 (s2.nd j m p _ _ (k2.at hr) (by rw [z]; exact hr4) hc3 hc4 rfl rfl)
            obtain ⟨k3, s3⟩ := Qm s2 (k2.at hr) hc3 hH2 (qm kv4 kv2)
            exact ⟨p, p4, ws2, ms, rfl, rfl, hne, hH2, hH4, by rw [← Kg kv2, ← Kg kv4]; exact hz.2, (show ar g rho H Q .non _ from q2) _ _ r2 ((k1.trans k2).trans k3) s3 (dh.mpr rfl)⟩
          · exact q2.elim
        · exact q2.elim
      | [], q2 => exact q2.elim
      | [.non], q2 => exact q2.elim
      | [.bl _], q2 => exact q2.elim
      | [.int _], q2 => exact q2.elim
      | [.str _], q2 => exact q2.elim
      | [.tup _], q2 => exact q2.elim
      | _ :: _ :: _, q2 => exact (show False by revert q2; rename_i a b c; cases a <;> exact fun q => q.elim).elim
    · exact q1.elim
end DD
namespace DD
open PySem PySem.Spec L2
open PyProof.Rows hiding St RelV
variable {g : G} {X : Cx} {pos : Pos} {F : Nat}
def mj (g : G) (tg : List Nat) (one : Bool) (env0 : Env) (ifs : Es) (kx vx : E) (d : D) (st : Sto) : Res (Option (D × D)) := match store tg one d env0 with
 | some env' => (Cz g.tab g.call ifs env' st).bind fun b st => if b then (Ad g.tab g.call kx env' st).bind fun k st => (Ad g.tab g.call vx env' st).bind fun y st => .ok (some (k, y)) st else .ok none st
 | none => .bad
theorem Mj : ∀ {xs : List D} {st : Sto}, Bs all p n0 body xs st ≠ .exc c st'
 | [], st => by
  simp only [Bs]
  split <;> (intro h; cases h)
 | d :: r, st => by
  simp only [Bs]
  split
  · split
    · split
      · split
        · exact Mj
        · intro h; cases h
      · intro h; cases h
    · exact Mj
    · intro h; cases h
  · intro h; cases h
theorem Ze (I : Nat → Shared → Prop)
    (turn : ∀ n s, I n s → wpAny (model prog w) A (pyNext it) (fun r s₁ => match r with
      | none => R (.ok .next) s₁
      | some v => wpAny (model prog w) A (letOwnedTupleGo target it v) (fun _ s₁ => wpAny (model prog w) A (assign target env v) (fun _ s₂ =>
          wpAny (model prog w) A (forIn ifs true fun c r => if r = true then do let ok ← isTrue c env (eval c env); pure (ForInStep.yield ok) else pure (ForInStep.yield r)) (fun ok s₃ =>
            if ok = true then wpAny (model prog w) A (eval kx env) (fun kv s₄ => wpAny (model prog w) A (eval vx env) (fun vv s₅ =>
              wpAny (model prog w) A (dictSet dd kv vv) (fun _ s₆ => ∃ m, m < n ∧ I m s₆) (notedBy (model prog w) A env fun e s' => R (.error e) s') s₅) (notedBy (model prog w) A env fun e s' => R (.error e) s') s₄) (notedBy (model prog w) A env fun e s' => R (.error e) s') s₃
            else ∃ m, m < n ∧ I m s₃) (notedBy (model prog w) A env fun e s' => R (.error e) s') s₂) (notedBy (model prog w) A env fun e s' => R (.error e) s') s₁) (notedBy (model prog w) A env fun e s' => R (.error e) s') s₁) (notedBy (model prog w) A env fun e s' => R (.error e) s') s)
    (n : Nat) (h : I n s) : codeAny (model prog w) A (.compLoop (.DictComp kx vx [⟨target, iter, ifs, 0⟩] scope pos) 0 it (.ref dd) env) R s := by
  refine codeAny_loop rfl I (fun n s hI => ?_) n h
  show wpAny _ A ((compTurn (.DictComp kx vx [⟨target, iter, ifs, 0⟩] scope pos) 0 it (.ref dd) env).onRaise (fun x => do noteFrame x env; theTreesLotGoes x)) _ _ s
  refine wpAny_noted ?_
  rw [compTurn_dict]
  refine wpAny_bind (wpAny_standAt (wpAny_bind (wpAny_mono (turn n s hI) (fun r s₁ h₁ => ?_) fun _ _ h' => h')))
  cases r with
  | none => exact wpAny_pure h₁
  | some v =>
    refine wpAny_bind (wpAny_mono h₁ (fun _ s₁ h₁ => ?_) fun _ _ h' => h')
    refine wpAny_bind (wpAny_mono h₁ (fun _ s₂ h₂ => wpAny_bind (wpAny_mono h₂ (fun ok s₃ h₃ => ?_) fun _ _ h' => h')) fun _ _ h' => h')
    cases ok with
    | false => exact wpAny_pure ⟨rfl, h₃⟩
    | true =>
      exact wpAny_bind (wpAny_bind (wpAny_mono h₃ (fun kv s₄ h₄ => wpAny_bind (wpAny_holding (wpAny_mono h₄ (fun vv s₅ h₅ => wpAny_bind (wpAny_standAt (wpAny_holding (wpAny_mono h₅ (fun _ s₆ h₆ => wpAny_pure ⟨rfl, h₆⟩) fun _ _ h' => h')))) fun _ _ h' => h'))) fun _ _ h' => h'))
theorem Jd {kx vx iter target : Expr} {ifs : List Expr} {N : List Str} {nl : Nat} {fv tgs : List Nat} {one : Bool} {k : Nat} {scope : Scope} {cl : List (Str × Addr)} {it' kx' vx' : E} {ifs' : Es} (hK : X.K = g.K) (hc : X.calm = true) (hkind : scope.kind = .function) (hcell : ∀ y ∈ scope.names, y.2 ≠ .cell)
    (hnames : ∀ y ∈ scope.names, y.2 = .local → scope.names.lookup y.1 = some .local) (hclos : closureFor scope X.env = pure cl) (C : Clos X scope cl) (hN : N.length = nl + fv.length)
    (hfv : ∀ j k, fv[j]? = some k → ∃ x c, N[nl + j]? = some x ∧ X.N[k]? = some x ∧ cl.lookup x = some c ∧ (X.env.scope.names.lookup x = some .cell ∨ X.env.scope.names.lookup x = some .free) ∧ ((relabel scope X.env).names.lookup x = some .cell ∨ (relabel scope X.env).names.lookup x = some .free))
    (htg : ∀ i ∈ tgs, i < nl) (hi : SdI g X target iter k it') (hg : ∀ L s0 H0 fp pn, PG (cxG X N scope cl L s0 H0 fp pn) target (tg g.K tgs one))
    (ht : ∀ L s0 H0 fp pn, PTs (cxG X N scope cl L s0 H0 fp pn) ifs (kg (g.with fun _ _ _ => False) ifs')) (hkx : ∀ L s0 H0 fp pn, Sd (g.with fun _ _ _ => False) (cxG X N scope cl L s0 H0 fp pn) kx kx') (hvx : ∀ L s0 H0 fp pn, Sd (g.with fun _ _ _ => False) (cxG X N scope cl L s0 H0 fp pn) vx vx')
    (hs : ∀ x, foldedSetIterable iter X.env x = pure x := by intro _; rfl) :
    Sd g X (.DictComp kx vx [⟨target, iter, ifs, 0⟩] scope pos) (.dcomp k one nl tgs fv it' ifs' kx' vx') := by
  intro pins s sg H Q I q
  obtain ⟨rho, st, env, S, n, q⟩ := q
  obtain ⟨wi, hpi, hwi⟩ := hi
  generalize hB : mj g tgs one (cq nl fv env) ifs' kx' vx' = body
  have q : RQ g ((Ad g.tab g.call it' env st).bind fun d st => match eg k st d with
      | some (xs, p) => (Bs xs p st.length body xs (st ++ [.dct []])).bind fun _ st' => .ok (.loc st.length) st'
      | none => .bad) (ar g rho H Q) rho H := by
    rw [← hB]
    simp only [Ad] at q
    exact q
  rw [arm_eval_DictComp]
  refine wpAny_comprehension_free (use := none) rfl hs hclos hkind hnames ?_
  have hpi := hpi pins s sg H
    (fun J H1 => ∃ r1 st1 xs p, g.Keep rho H r1 H1 ∧ g.Sto r1 st1 H1 ∧ ItJ g J xs p r1 H1 ∧
      RQ g ((Bs xs p st1.length body xs (st1 ++ [.dct []])).bind fun _ st' => .ok (.loc st1.length) st') (ar g rho H Q) r1 H1) I ?_
  · refine thn hpi fun v s1 h1 => thn h1 fun itv s2 h2 => ?_
    obtain ⟨it, fp, tn, J, H1, rfl, I2, T, st2, f2, r1, st1, xs, p, k1, S1, hJ, q1⟩ := h2
    obtain ⟨stf, hloop, q1⟩ : ∃ stf, Bs xs p st1.length body xs (st1 ++ [.dct []]) = .ok () stf ∧ ar g rho H Q (.loc st1.length) stf := by
      revert q1
      cases e : Bs xs p st1.length body xs (st1 ++ [.dct []]) with
      | ok u stf => exact fun q => ⟨stf, rfl, q⟩
      | exc c st2 => exact absurd e Mj
      | bad => exact fun q => q.elim
    refine wpAny_newObj_type ?_
    have I3 := I2.laid (a := s2.heap.objs.size) (o := .dK []) (h' := s2.heap.push { cls := .type "dict", data := .dict #[] }) (t' := s2.toks) (fun _ _ q => Heap.get?_push_of_some _ q) (Nat.le_refl _) (Xa s2.heap I2.big)
    have hn3 := I2.fresh
    generalize hs3 : ({ s2 with heap := s2.heap.push { cls := .type "dict", data := .dict #[] } } : Shared) = s3
    have I3 : L2.Inv X pins sg (upd H1 s2.heap.objs.size (.dK [])) s3 := by rw [← hs3]; exact I3
    have hsz : s3.heap.objs.size = s2.heap.objs.size + 1 := by rw [← hs3]; exact Heap.size_push _ _
    have up3 : ∀ b o, s2.heap.get? b = some o → s3.heap.get? b = some o := fun b o e => by rw [← hs3]; exact Heap.get?_push_of_some _ e
    have hfp : ∀ b ∈ fp, cy X pins (upd H1 s2.heap.objs.size (.dK [])) b ∧ b < s3.heap.objs.size := fun b hb => by
      obtain ⟨o, ho, _⟩ := T.obj _ _ st2 b hb
      have hlt := Heap.lt_size ho
      refine ⟨⟨?_, (f2 b hb).2⟩, by rw [hsz]; exact Nat.lt_succ_of_lt hlt⟩
      rw [Be (Nat.ne_of_lt hlt)]
      exact (f2 b hb).1
    have k13 : g.Keep r1 H1 (r1 ++ [s2.heap.objs.size]) (upd H1 s2.heap.objs.size (.dK [])) := (S1.laid hn3 (o := .dK []) (c := .dct []) ⟨[], cj, by simp [az]⟩).1
    have S3 : g.Sto (r1 ++ [s2.heap.objs.size]) (st1 ++ [.dct []]) (upd H1 s2.heap.objs.size (.dK [])) := (S1.laid hn3 (o := .dK []) (c := .dct []) ⟨[], cj, by simp [az]⟩).2
    have acc_at : (r1 ++ [s2.heap.objs.size])[st1.length]? = some s2.heap.objs.size := by rw [← S1.len]; simp
    generalize hH3 : upd H1 s2.heap.objs.size (.dK []) = H3 at *
    generalize hac : s2.heap.objs.size = ac at *
    generalize hr3 : r1 ++ [ac] = r3 at *
    refine wpAny_newFunctionEnv hcell (by intro y hy; simp at hy) (fun h₁ hns₁ hsb₁ => ?_) hkind
    have hk1 : ∀ b o, s3.heap.get? b = some o → h₁.get? b = some o := fun b o e => hsb₁.extBut b o (Nat.ne_of_lt (Heap.lt_size e)) (Heap.get?_push_of_some _ e)
    have J0 := Qh (N := N) (nl := nl) (fv := fv) (tk := s3.toks + ([] : List (Str × Value)).length) hkind C hN hfv I3 hfp hns₁ hk1
    have n0 := qj (n.mono (k1.trans k13)) nl fv
    generalize hsg0 : (List.replicate nl none ++ fv.map fun k => (sg[k]?).join : L2.St) = sg0 at J0 n0
    have tn0 : tn 0 h₁ := T.keep _ _ _ st2 fun b _ o e => hk1 b o (up3 b o e)
    have bfp : ∀ {H' : Hp}, (∀ b ∈ fp, H' b = none) → ∀ b ∈ fp, cy (cxG X N scope cl s3.heap.objs.size s3 H3 fp (X.pn ++ pins)) [] H' b := fun hn b hb => by
      obtain ⟨f, hlt⟩ := hfp b hb
      refine ⟨hn b hb, fun z => ?_, Mg I3 f, .inl hb, fun y c h => f.2.2.2.2.1 y c (C.sub y c h), fun p hp => f.2.2.2.2.2 p (by rw [List.append_nil] at hp; exact hp)⟩
      have : s3.heap.objs.size < s3.heap.objs.size := by rw [z] at hlt; exact hlt
      exact Nat.lt_irrefl _ this
    have loop : codeAny (model X.prog X.w) X.A (.compLoop (.DictComp kx vx [⟨target, iter, ifs, 0⟩] scope pos) 0 (.ref it) (.ref ac) (Mf X scope cl s3.heap.objs.size))
        (compPost (model X.prog X.w) X.A X.xe none (EP X pins sg Q) (.ref ac) s3.heap.objs.size)
        { s3 with heap := h₁, toks := s3.toks + ([] : List (Str × Value)).length } := by
      refine Ze (fun mm s' => ∃ i rho' st' H' sg', L2.Inv (cxG X N scope cl s3.heap.objs.size s3 H3 fp (X.pn ++ pins)) [] sg' H' s' ∧ tn i s'.heap ∧ (∀ b ∈ fp, H' b = none) ∧ g.Keep r3 H3 rho' H' ∧ g.Sto rho' st' H' ∧ g.Env rho' H' (cq nl fv env) sg' ∧ mm = xs.length - i ∧ i ≤ xs.length ∧
        Bs xs p st1.length body (xs.drop i) st' = .ok () stf) ?_ xs.length ⟨0, r3, _, H3, sg0, J0, tn0, fun b hb => (hfp b hb).1.1, .refl _ _, S3, n0, by simp, Nat.zero_le _, hloop⟩
      rintro mm s' ⟨i, rho', st', H', sg', I', tn', fr', kk, S', n', rfl, hi, hl'⟩
      have hst : stays st' p xs = true := by
        cases z : stays st' p xs with
        | true => rfl
        | false =>
          exfalso
          cases e : xs.drop i with
          | nil => rw [e] at hl'; simp only [Bs, z] at hl'; cases hl'
          | cons d t => rw [e] at hl'; simp only [Bs, z] at hl'; cases hl'
      obtain ⟨jstop, jgo⟩ := hJ rho' st' H' (k13.trans kk) S' hst
      by_cases hlt : i < xs.length
      · obtain ⟨hgo, hy⟩ := jgo i xs[i] (List.getElem?_eq_getElem hlt)
        rw [List.drop_eq_getElem_cons hlt] at hl'
        simp only [Bs, hst, if_true] at hl'
        refine thn (T.item (cxG X N scope cl s3.heap.objs.size s3 H3 fp (X.pn ++ pins)) rfl rfl rfl hc i [] s' sg' H' _ I' (bfp fr') tn' hgo) fun r s4 ⟨u, hr4, h4⟩ => ?_
        subst hr4
        refine thn h4 fun _ s5 ⟨x5, H5, I5, r5, y5, tn5, fr5⟩ => ?_
        obtain ⟨e5, rx5⟩ := hy x5 H5 y5
        have k5 : g.Keep rho' H' rho' H5 := bg.keep e5 rho'
        have kk := kk.trans k5
        have S' := S'.same e5
        have n' := n'.mono k5
        have I5' := I5.pinned (bfp fr5) (T.obj _ _ tn5)
        obtain ⟨env', es⟩ : ∃ env', store tgs one xs[i] (cq nl fv env) = some env' := by
          cases es : store tgs one xs[i] (cq nl fv env) with
          | some env' => exact ⟨env', rfl⟩
          | none =>
            exfalso
            have : body xs[i] st' = .bad := by rw [← hB]; unfold mj; rw [es]
            rw [this] at hl'; cases hl'
        have hbody : body xs[i] st' = (Cz g.tab g.call ifs' env' st').bind fun b st => if b then (Ad g.tab g.call kx' env' st).bind fun k st => (Ad g.tab g.call vx' env' st).bind fun y st => .ok (some (k, y)) st else .ok none st := by
          rw [← hB]; unfold mj; rw [es]
        rw [hbody] at hl'
        obtain ⟨hel, hhi⟩ := qi es htg
        refine wpAny_mono (hg s3.heap.objs.size s3 H3 fp (X.pn ++ pins) _ s5 sg' H5 x5 u (fun sg6 H6 => H6 = H5 ∧ g.Env rho' H6 env' sg6) I5' r5 (Ic (g := g) es rx5 n' fun sg6 n6 => ⟨rfl, n6⟩)) (fun _ s6 h6 => ?_) (fun _ _ z => z.elim)
        obtain ⟨sg6, H6, I6, e6, n6⟩ := h6
        subst e6
        obtain ⟨b, st2, eb, hl'⟩ : ∃ b st2, Cz g.tab g.call ifs' env' st' = .ok b st2 ∧ (match (if b then (Ad g.tab g.call kx' env' st2).bind fun k st => (Ad g.tab g.call vx' env' st).bind fun y st => .ok (some (k, y)) st else .ok none st2 : Res (Option (D × D))) with
            | .ok (some (k, y)) st' => (match st'[st1.length]? with
              | some (.dct kvs) => if kvs.length < sizeLine ∧ Dq k = true then Bs xs p st1.length body (xs.drop (i + 1)) (st'.set st1.length (.dct (Fd kvs k y))) else .bad
              | _ => .bad)
            | .ok none st' => Bs xs p st1.length body (xs.drop (i + 1)) st'
            | _ => .bad) = Res.ok () stf := by
          cases eb : Cz g.tab g.call ifs' env' st' with
          | ok b st2 => rw [eb] at hl'; exact ⟨b, st2, rfl, hl'⟩
          | exc c st2 => rw [eb] at hl'; cases hl'
          | bad => rw [eb] at hl'; cases hl'
        refine wpAny_mono (ht s3.heap.objs.size s3 H3 fp (X.pn ++ pins) _ s6 sg6 H6 (fun b' H7 => b' = b ∧ ∃ rho7, g.Keep rho' H6 rho7 H7 ∧ g.Sto rho7 st2 H7) I6 ⟨rho', st', env', S', n6, ?_⟩) (fun ok s7 h7 => ?_) (fun _ _ z => z.elim)
        · show RQ (g.with fun _ _ _ => False) (Cz g.tab g.call ifs' env' st') _ rho' H6
          rw [eb]
          exact fun H7 rho7 k7 s7 => ⟨rfl, rho7, k7, s7⟩
        obtain ⟨H7, I7, e7, rho7, k7, S7⟩ := h7
        subst e7
        have n7 : g.Env rho7 H7 env' sg6 := n6.mono k7
        have done : ∀ (rho9 : List Addr) (st9 : Sto) (H9 : Hp) (s9 : Shared), L2.Inv (cxG X N scope cl s3.heap.objs.size s3 H3 fp (X.pn ++ pins)) ([] ++ Hu fp s5.heap) sg6 H9 s9 → g.Keep rho7 H7 rho9 H9 → g.Sto rho9 st9 H9 → Bs xs p st1.length body (xs.drop (i + 1)) st9 = .ok () stf →
            ∃ m, m < xs.length - i ∧ ∃ i rho' st' H' sg', L2.Inv (cxG X N scope cl s3.heap.objs.size s3 H3 fp (X.pn ++ pins)) [] sg' H' s9 ∧ tn i s9.heap ∧ (∀ b ∈ fp, H' b = none) ∧ g.Keep r3 H3 rho' H' ∧ g.Sto rho' st' H' ∧ g.Env rho' H' (cq nl fv env) sg' ∧ m = xs.length - i ∧ i ≤ xs.length ∧ Bs xs p st1.length body (xs.drop i) st' = .ok () stf := by
          intro rho9 st9 H9 s9 I9 k9 S9 hl9
          refine ⟨xs.length - (i + 1), by omega, i + 1, rho9, st9, H9, sg6, I9.unpinned, T.keep _ _ _ tn5 fun b hb o e => (I9.pin (b, o) (List.mem_append_right _ (List.mem_append_right _ (Hv hb e)))).1, fun b hb => ?_, (kk.trans k7).trans k9, S9, Qj rfl hel hhi (n7.mono k9), rfl, hlt, hl9⟩
          obtain ⟨o, e, d⟩ := T.obj _ _ tn5 b hb
          exact (I9.pin (b, o) (List.mem_append_right _ (List.mem_append_right _ (Hv hb e)))).2.1
        cases ok with
        | false =>
          rw [if_neg Bool.false_ne_true]
          simp only [Bool.false_eq_true, if_false] at hl'
          exact done rho7 st2 H7 s7 I7 (.refl _ _) S7 hl'
        | true =>
          rw [if_pos rfl]
          simp only [if_true] at hl'
          obtain ⟨kd, st3, ek, hl'⟩ : ∃ kd st3, Ad g.tab g.call kx' env' st2 = .ok kd st3 ∧ (match ((Ad g.tab g.call vx' env' st3).bind fun y st => .ok (some (kd, y)) st : Res (Option (D × D))) with
            | .ok (some (k, y)) st' => (match st'[st1.length]? with
              | some (.dct kvs) => if kvs.length < sizeLine ∧ Dq k = true then Bs xs p st1.length body (xs.drop (i + 1)) (st'.set st1.length (.dct (Fd kvs k y))) else .bad
              | _ => .bad)
            | .ok none st' => Bs xs p st1.length body (xs.drop (i + 1)) st'
            | _ => .bad) = Res.ok () stf := by
            cases ek : Ad g.tab g.call kx' env' st2 with
            | ok kd st3 => rw [ek] at hl'; exact ⟨kd, st3, rfl, hl'⟩
            | exc c st4 => rw [ek] at hl'; cases hl'
            | bad => rw [ek] at hl'; cases hl'
          obtain ⟨y, st4, ee, hl'⟩ : ∃ y st4, Ad g.tab g.call vx' env' st3 = .ok y st4 ∧ (match st4[st1.length]? with
              | some (.dct kvs) => if kvs.length < sizeLine ∧ Dq kd = true then Bs xs p st1.length body (xs.drop (i + 1)) (st4.set st1.length (.dct (Fd kvs kd y))) else .bad
              | _ => .bad) = Res.ok () stf := by
            cases ee : Ad g.tab g.call vx' env' st3 with
            | ok y st4 => rw [ee] at hl'; exact ⟨y, st4, rfl, hl'⟩
            | exc c st4 => rw [ee] at hl'; cases hl'
            | bad => rw [ee] at hl'; cases hl'
          obtain ⟨kvs, ey, ⟨hys, hkd⟩, hl'⟩ : ∃ kvs, st4[st1.length]? = some (.dct kvs) ∧ (kvs.length < sizeLine ∧ Dq kd = true) ∧ Bs xs p st1.length body (xs.drop (i + 1)) (st4.set st1.length (.dct (Fd kvs kd y))) = .ok () stf := by
            split at hl'
            · rename_i kvs ey
              split at hl'
              · rename_i hys; exact ⟨kvs, ey, hys, hl'⟩
              · cases hl'
            · cases hl'
          refine wpAny_mono (hkx s3.heap.objs.size s3 H3 fp (X.pn ++ pins) _ s7 sg6 H7 (fun w H8 => ∃ rho8, g.Keep rho7 H7 rho8 H8 ∧ g.Sto rho8 st3 H8 ∧ g.Rep rho8 H8 kd w) I7 ⟨rho7, st2, env', S7, n7, ?_⟩) (fun kv s8 h8 => ?_) (fun _ _ z => z.elim)
          · show RQ (g.with fun _ _ _ => False) (Ad g.tab g.call kx' env' st2) _ rho7 H7
            rw [ek]
            exact fun w H8 rho8 k8 s8 r8 => ⟨rho8, k8, s8, r8⟩
          obtain ⟨wk, H8, I8, rw8, rho8, k8, S8, rp8⟩ := h8
          refine wpAny_mono (hvx s3.heap.objs.size s3 H3 fp (X.pn ++ pins) _ s8 sg6 H8 (fun w H9 => ∃ rho9, g.Keep rho8 H8 rho9 H9 ∧ g.Sto rho9 st4 H9 ∧ g.Rep rho9 H9 y w) I8 ⟨rho8, st3, env', S8, n7.mono k8, ?_⟩) (fun yv s9 h9 => ?_) (fun _ _ z => z.elim)
          · show RQ (g.with fun _ _ _ => False) (Ad g.tab g.call vx' env' st3) _ rho8 H8
            rw [ee]
            exact fun w H9 rho9 k9 s9 r9 => ⟨rho9, k9, s9, r9⟩
          obtain ⟨w, H9, I9, rw9, rho9, k9, S9, rp9⟩ := h9
          obtain ⟨kk9, ekk⟩ := ma hkd
          have rpk := rp8.mono k9
          cases Ma rpk ekk
          have edc : Cc st4 st1.length = some kvs := by unfold Cc; rw [ey]
          obtain ⟨a9, ws, hr9, _, hH9, kv9⟩ := ic S9 edc
          rw [k9.at (k8.at (k7.at (kk.at acc_at)))] at hr9; cases hr9
          obtain ⟨k10, S10⟩ := Qm S9 (k9.at (k8.at (k7.at (kk.at acc_at)))) ey hH9 (Ql ekk rp9 kv9)
          exact zd (X := cxG X N scope cl s3.heap.objs.size s3 H3 fp (X.pn ++ pins)) I9 hH9 (by rw [← Kg kv9]; exact hys) rw8 rw9 fun s10 I10 => done rho9 _ _ s10 I10 ((k8.trans k9).trans k10) S10 hl'
      · have ei : i = xs.length := by omega
        subst ei
        refine thn (T.done (cxG X N scope cl s3.heap.objs.size s3 H3 fp (X.pn ++ pins)) rfl rfl rfl hc xs.length [] s' sg' H' _ I' (bfp fr') tn' jstop) fun r s4 ⟨hr4, I4⟩ => ?_
        subst hr4
        rw [List.drop_eq_nil_of_le (Nat.le_refl _)] at hl'
        simp only [Bs, hst, if_true] at hl'
        cases hl'
        obtain ⟨m4, hn4, _⟩ := I4.loc
        refine ⟨m4, hn4, fun h' sb => ?_⟩
        refine ⟨.ref ac, H', ?_, rfl, q1 (.ref ac) H' rho' ((k1.trans k13).trans kk) S' (Bl.mpr ⟨ac, kk.at acc_at, rfl⟩)⟩
        have u4 : Un (frs X.stack) fp H3 H' s3.heap s4.heap := I4.base
        have hL : ∀ b o, s3.heap.get? b = some o → b ≠ s3.heap.objs.size := fun b o e => Nat.ne_of_lt (Heap.lt_size e)
        have fL : H' s3.heap.objs.size = none := I4.free
        refine I3.call' (s' := { s4 with heap := h' }) (ch := fp) I4.os ⟨fun b o e n hb hx => (sb.2 b (hL b o e)).trans (u4.keep b o e n hb hx), fun b o e n hb hx => ?_, u4.free, fun b o e hx => ?_, u4.tups, u4.frzs, u4.tbls⟩ (fun b o e => ?_) I4.bare fun b hb => ?_
        · obtain ⟨sl, e1⟩ := u4.slot b o e n hb hx
          exact ⟨sl, (sb.2 b (hL b o e)).trans e1⟩
        · obtain ⟨o', e1⟩ := u4.there b o e hx
          exact ⟨o', (sb.2 b (hL b o e)).trans e1⟩
        · refine (I4.hok b o e).stay (fun c u hc' g' => (sb.2 c ?_).trans g') (fun _ h => h) fun _ _ h => h
          intro z
          rcases hc' with rfl | hc'
          · rw [z, fL] at e; cases e
          · rw [z, fL] at hc'; cases hc'
        · obtain ⟨f, _⟩ := hfp b hb
          exact ⟨f.2.2.2.1, f.2.1, f.2.2.2.2.1, f.2.2.2.2.2⟩
    exact codeAny_compStart_dict loop (T.self _ 0 _ _ _ tn0 loop)
  · refine hwi rho st env sg H _ S n ?_
    revert q
    cases Ad g.tab g.call it' env st with
    | bad => exact fun q => q
    | exc c st1 => exact fun q => q
    | ok d st1 =>
      simp only [bo]
      intro q
      cases ei : eg k st1 d with
      | none => rw [ei] at q; exact q.elim
      | some xp =>
        obtain ⟨xs, p⟩ := xp
        rw [ei] at q
        exact ⟨xs, p, ei, fun H1 r1 J k1 s1 hJ => ⟨r1, st1, xs, p, k1, s1, hJ, RQ.mono k1 q fun _ _ z => z⟩⟩
variable {g : G} {X : Cx} {pos pos' apos cpos : Pos} {F : Nat} {a b c : Expr} {a' b' c' : E}
theorem RepL.set : ∀ {ds : List D} {vs : List V} (i : Nat), g.Rep rho H y v → g.RepL rho H ds vs → g.RepL rho H (ds.set i y) (vs.set i v)
 | [], vs, i, _, r => by simp only [DD.RepL] at r; subst r; simp [DD.RepL]
 | d :: t, vs, 0, ry, r => by
  simp only [DD.RepL] at r
  obtain ⟨x, w, rfl, r1, r2⟩ := r
  simp only [List.set_cons_zero, DD.RepL]
  exact ⟨v, w, rfl, ry, r2⟩
 | d :: t, vs, i + 1, ry, r => by
  simp only [DD.RepL] at r
  obtain ⟨x, w, rfl, r1, r2⟩ := r
  simp only [List.set_cons_succ, DD.RepL]
  exact ⟨x, _, rfl, r1, RepL.set i ry r2⟩
variable {g : G} {X : Cx} {pos : Pos} {F : Nat}
variable {g : G} {X : Cx} {pos apos cpos : Pos} {F : Nat}
section
variable {prog : Program} {w : World} {K : Type} [DecidableEq K] {knd : HeapKind prog w K} {A : Around} {E : Value → Shared → Prop} {s : Shared}
end
variable {g : G} {X : Cx} {a b : Expr} {a' b' : E} {pos apos cpos : Pos} {F : Nat}
section
variable {prog : Program} {w : World} {K : Type} [DecidableEq K] {knd : HeapKind prog w K} {A : Around} {E : Value → Shared → Prop} {s : Shared}
end
variable {g : G} {X : Cx} {pos apos cpos : Pos} {o e f : Expr} {o' e' f' : E}
end DD
namespace DD
open PySem PySem.Spec L2
variable {tab : Nat → Ty → Option Bool} {call : Or}
theorem zf : ∀ env st, aq tab call (.var i) env st = (Ad tab call (.var i) env st).bind fun d st => match truth st d with | some b => .ok b st | none => .bad := fun env st => by
 simp only [aq, Ad]
 cases cz env i <;> rfl
theorem Dj : ∀ env st, aq tab call (.call f es dv) env st = (Ad tab call (.call f es dv) env st).bind fun d st => match truth st d with | some b => .ok b st | none => .bad := fun env st => by
 simp only [aq, Ad]
 cases Au tab call es env st <;> rfl
theorem qp : ∀ env st, aq tab call (.bt f es) env st = (Ad tab call (.bt f es) env st).bind fun d st => match truth st d with | some b => .ok b st | none => .bad := fun env st => by
 simp only [aq, Ad]
 cases Au tab call es env st <;> rfl
theorem dy : ∀ env st, aq tab call (.isi a t) env st = (Ad tab call (.isi a t) env st).bind fun d st => match truth st d with | some b => .ok b st | none => .bad := fun env st => by
 simp only [aq, Ad]
 cases Ad tab call a env st with
 | ok x st1 =>
  simp only [bo]
  cases (Cy st1 x).bind fun u => Dw tab u t <;> rfl
 | _ => rfl
end DD
namespace DD
open PySem
end DD
namespace DD
open PySem PySem.Spec L2
open PyProof.Rows hiding St RelV
variable {g : G} {X : Cx} {pos : Pos} {F : Nat}
def ml : NameKind → Bool
 | .cell => true
 | .free => true
 | _ => false
def Ml (cells : List (Str × Addr)) : List (Str × Addr) → Prop
 | [] => True
 | p :: l => cells.lookup p.1 = some p.2 ∧ Ml cells l
theorem Qp : ∀ {cl : List (Str × Addr)}, Ml cells cl → ∀ x c, cl.lookup x = some c → cells.lookup x = some c
 | [], _, x, c, h => by cases h
 | (k, a) :: l, ⟨h1, h2⟩, x, c, h => by
  rw [List.lookup_cons] at h
  split at h
  · rename_i e
    cases h; rw [eq_of_beq e]; exact h1
  · exact Qp h2 x c h
def qq (cl : List (Str × Addr)) (names : List (Str × NameKind)) : Bool := names.all fun p => !ml p.2 || (cl.lookup p.1).isSome
theorem Mm {α : Type} : ∀ {l : List (Str × α)} {x : Str} {a : α}, l.lookup x = some a → (x, a) ∈ l
 | [], x, a, h => by cases h
 | (k, b) :: l, x, a, h => by
  rw [List.lookup_cons] at h
  split at h
  · rename_i e; cases h; rw [eq_of_beq e]; exact .head _
  · exact .tail _ (Mm h)
theorem Dy (h1 : Ml X.env.cells cl) (h2 : qq cl (relabel scope X.env).names = true) : Clos X scope cl := by
 refine ⟨Qp h1, fun x h => ?_⟩
 unfold qq at h2
 rw [List.all_eq_true] at h2
 rcases h with h | h
 · have := h2 _ (Mm h)
   simp only [ml, Bool.not_true, Bool.false_or] at this
   exact Option.isSome_iff_exists.mp this
 · have := h2 _ (Mm h)
   simp only [ml, Bool.not_true, Bool.false_or] at this
   exact Option.isSome_iff_exists.mp this
def FvO (N XN : List Str) (cl : List (Str × Addr)) (n1 n2 : List (Str × NameKind)) (nl : Nat) : Nat → List Nat → Prop
 | _, [] => True
 | j, k :: l => (∃ x c, N[nl + j]? = some x ∧ XN[k]? = some x ∧ cl.lookup x = some c ∧ (n1.lookup x = some .cell ∨ n1.lookup x = some .free) ∧ (n2.lookup x = some .cell ∨ n2.lookup x = some .free)) ∧ FvO N XN cl n1 n2 nl (j + 1) l
theorem Qq : ∀ {l : List Nat} {a : Nat}, FvO N XN cl n1 n2 nl a l → ∀ j k, l[j]? = some k → ∃ x c, N[nl + (a + j)]? = some x ∧ XN[k]? = some x ∧ cl.lookup x = some c ∧ (n1.lookup x = some .cell ∨ n1.lookup x = some .free) ∧ (n2.lookup x = some .cell ∨ n2.lookup x = some .free)
 | [], a, _, j, k, h => by simp at h
 | k0 :: l, a, ⟨h1, h2⟩, 0, k, h => by
  simp only [List.getElem?_cons_zero, Option.some.injEq] at h
  subst h; exact h1
 | k0 :: l, a, ⟨h1, h2⟩, j + 1, k, h => by
  simp only [List.getElem?_cons_succ] at h
  obtain ⟨x, c, q⟩ := Qq h2 j k h
  refine ⟨x, c, ?_⟩
  rwa [show nl + (a + (j + 1)) = nl + (a + 1 + j) by omega]
theorem dz (h : FvO N X.N cl X.env.scope.names (relabel scope X.env).names nl 0 fv) :
    ∀ j k, fv[j]? = some k → ∃ x c, N[nl + j]? = some x ∧ X.N[k]? = some x ∧ cl.lookup x = some c ∧ (X.env.scope.names.lookup x = some .cell ∨ X.env.scope.names.lookup x = some .free) ∧ ((relabel scope X.env).names.lookup x = some .cell ∨ (relabel scope X.env).names.lookup x = some .free) := fun j k hj => by
  have := Qq h j k hj
  rwa [Nat.zero_add] at this
variable {g : G} {X : Cx} {pos apos cpos p2 : Pos} {F : Nat} {a b c : Expr} {a' b' c' : E}
end DD
namespace DD
open PySem PySem.Spec L2
open PyProof.Rows hiding St RelV
open PySem.W (kdl_call kdl_values kdl_vals_eq kdl_dict)
variable {g : G} {X : Cx} {pos apos cpos p2 : Pos} {F : Nat} {a b c : Expr} {a' b' c' : E}
end DD
namespace DD
open PySem PySem.Spec
section
variable {pr : Program} {w : World} {A : Around} {Kt : Type} [DecidableEq Kt] {kn : KeyKind pr w Kt}
def met (f : Nat → Kt) : Nat → List Kt
 | 0 => []
 | i + 1 => if f i ∈ met f i then met f i else met f i ++ [f i]
theorem qr (f : Nat → Kt) : ∀ i, (met f i).length ≤ i
 | 0 => by simp [met]
 | i + 1 => by
  have := qr f i
  simp only [met]
  split <;> simp <;> omega
theorem Zf (f : Nat → Kt) (i : Nat) (k : Kt) : decide (k ∈ met f (i + 1)) = (decide (k ∈ met f i) || decide (k = f i)) := by
 simp only [met]
 split
 · rename_i h
   by_cases e : k = f i
   · subst e; simp [h]
   · simp [e]
 · simp [List.mem_append, Bool.decide_or]
theorem zg (f : Nat → Kt) (i : Nat) : (met f (i + 1)).length = if decide (f i ∈ met f i) = true then (met f i).length else (met f i).length + 1 := by
 simp only [met, decide_eq_true_eq]
 split <;> simp
variable {R : Result → Shared → Prop} {I : Addr} {fp wr : List Addr} {G : Array GenState → Array GenState → Prop} {n : Nat} {P : Nat → Value → Prop} {St : Nat → Shared → Prop}
theorem Zg (W : WalksS pr w A.in1 I fp wr G n P St) (T : Addr) (nT : T ∉ fp) (f : Nat → Kt) (hv : ∀ i v, P i v → kn.is (f i) v = true ∧ v.scannable = true) (hb : n + 1 < scanBound) :
    ∀ (k i : Nat) (s : Shared), n - i = k → i ≤ n → St i s → s.heap.SetOf kn T (fun x => decide (x ∈ met f i)) (met f i).length →
      (∀ s1, Moved (T :: wr) G s s1 → s1.heap.SetOf kn T (fun x => decide (x ∈ met f n)) (met f n).length → R (.ok (.ret .none)) s1) →
      codeAny (model pr w) A (.builtin "set.update.loop" ⟨[.ref T, .ref I], []⟩) R s := by
  have nW : T ∉ wr := fun z => nT (W.sub _ z)
  have sb : ∀ b ∈ wr, b ∈ T :: wr := fun b z => List.mem_cons_of_mem _ z
  have kp : ∀ {x y : Shared} {g : Kt → Bool} {m : Nat}, Moved wr G x y → x.heap.SetOf kn T g m → y.heap.SetOf kn T g m := by
    intro x y g m mv z
    obtain ⟨o, es, ep, tb, q, r⟩ := z
    exact ⟨o, es, ep, tb, mv.heap T _ nW q, r⟩
  intro k
  induction k with
  | zero =>
    intro i s e1 e2 ht hT hR
    obtain rfl : i = n := by omega
    refine codeAny_builtin PyProof.Rows.F.entry_set_update_loop ?_
    rw [Around.under_plainId PyProof.Rows.F.plain_set_update_loop _]
    change wpAny _ A.in1 (pyNext (.ref I) >>= _) _ _ s
    refine wpAny_bind (W.done s _ _ ht fun s1 mv => ?_)
    change wpAny _ A.in1 (ret Value.none) _ _ s1
    exact wpAny_pure (hR s1 (mv.mono sb) (kp mv hT))
  | succ k ih =>
    intro i s e1 e2 ht hT hR
    have lt : i < n := by omega
    refine codeAny_builtin PyProof.Rows.F.entry_set_update_loop ?_
    rw [Around.under_plainId PyProof.Rows.F.plain_set_update_loop _]
    change wpAny _ A.in1 (pyNext (.ref I) >>= _) _ _ s
    refine wpAny_bind (W.item i s _ _ lt ht fun v s1 hP ht1 mv => ?_)
    obtain ⟨hk, hs⟩ := hv i v hP
    have hT1 := kp mv hT
    change wpAny _ A.in1 (holding [v] (setAdd T v) >>= _) _ _ s1
    refine wpAny_bind (wpAny_holding ?_)
    unfold setAdd
    refine wpAny_holding (wpAny_bind (kn.pyHash (k := f i) hk ?_))
    have rm : (met f i).length + 1 < scanBound := by have := qr f i; omega
    refine wpAny_setAddHashed_of (knd := kn) (s := { s1 with toks := s1.toks + 1 }) hk hs hT1 rm fun h1 hsb hT2 => ?_
    have hT3 : h1.SetOf kn T (fun x => decide (x ∈ met f (i + 1))) (met f (i + 1)).length := by
      rw [zg, show (fun x => decide (x ∈ met f (i + 1))) = fun x => decide (x ∈ met f i) || decide (x = f i) from funext (Zf f i)]
      exact hT2
    refine wpAny_pure ⟨plainId_quiet PyProof.Rows.F.plain_set_update_loop _, ih (i + 1) _ (by omega) lt (W.frame _ s1 _ _ ht1 (Nat.le_succ _) fun b hb o e => ?_) hT3 fun s2 mv2 hT4 => ?_⟩
    · exact (hsb.2 b fun z => nT (z ▸ hb)).trans e
    · refine hR s2 (Moved.trans W.gtrans ((mv.mono sb).then_heap (Nat.le_succ _) fun b o nb e => ?_) mv2) hT4
      exact (hsb.2 b fun z => nb (z ▸ List.mem_cons_self)).trans e
end
section
variable {pr : Program} {w : World} {A : Around} {Er : Value → Shared → Prop} {s : Shared} {Kt : Type} [DecidableEq Kt] {kn : KeyKind pr w Kt}
abbrev Fy (b : Bool) : Obj := { cls := .type "set", dict := none, data := .set #[] 0 (.fresh 0 0 b) }
theorem zh (hh : A.handled = none) (hl : s.heap.IsList l its) (hv : ∀ i v, its[i]? = some v → kn.is (f i) v = true ∧ v.scannable = true) (hb : its.size + 1 < scanBound)
    (hq : ∀ (h1 : Heap) (tk : Nat), h1.SetOf kn s.heap.objs.size (fun x => decide (x ∈ met f its.size)) (met f its.size).length → (∀ b o, b < s.heap.objs.size → s.heap.get? b = some o → h1.get? b = some o) → Q (.ref s.heap.objs.size) { s with heap := h1, toks := tk }) :
    wpAny (model pr w) A (call (.type "set") [.ref l]) Q Er s := by
  obtain ⟨c, tl, xm⟩ := PySem.F.called_set.mro
  have x1 := PySem.F.called_set.made
  have x2 := PySem.F.called_set.sub
  refine wpAny_call (codeAny_of_tree ?_)
  change wpAny _ _ (callAny (.type "set") _) _ _ _
  refine wpAny_pure ⟨Code.quiet_builtin _ (by decide +kernel), codeAny_builtin PySem.F.entry_type_call ?_⟩
  rw [Around.under_plain (weight_type_call_type "set" [.ref l] []) rfl]
  have x3 := PySem.F.called_set.notType
  have x4 := PySem.F.called_set.canCreate
  have x5 := PySem.F.typeCall_set_1 (.ref l)
  repeat (any_goals (first | assumption | wp_step))
  refine codeAny_mono (code_set_new_1 (.ref l) (E := Er) (Q₁ := fun ob s1 => ∃ b : Bool, ob = .ref s.heap.objs.size ∧ s1 = { s with heap := s.heap.push (Fy b) }) fun b => ⟨b, rfl, rfl⟩) fun r s1 z => ?_
  cases r with
  | error e => exact z
  | ok fl =>
    cases fl with
    | ret ob =>
      obtain ⟨b, rfl, rfl⟩ := z
      have y1 : (s.heap.push (Fy b)).get? s.heap.objs.size = some (Fy b) := Heap.get?_push_size _ rfl
      have y2 : Shared.TypeIs { s with heap := s.heap.push (Fy b) } (.ref s.heap.objs.size) "set" := ⟨_, y1, rfl⟩
      have y3 := PySem.F.called_set.init.lookup
      have y4 := PySem.F.called_set.init.bind (.ref s.heap.objs.size)
      repeat (any_goals (first | assumption | wp_step))
      refine codeAny_mono (codeAny_call_builtin (R := wants (fun r s2 => r = .none ∧ ∃ h1 tk, s2 = { s with heap := h1, toks := tk } ∧
          h1.SetOf kn s.heap.objs.size (fun x => decide (x ∈ met f its.size)) (met f its.size).length ∧ (∀ b o, b < s.heap.objs.size → s.heap.get? b = some o → h1.get? b = some o)) Er) PySem.F.called_set.init.plain PySem.F.entry_set_init (check_set_init_1 y2 ?_)) fun r2 s2 z2 => ?_
      · obtain ⟨ol, q1, q2, nl, q3⟩ := hl
        obtain ⟨oc, od, oa, os⟩ := ol
        simp only at q2 q3
        subst q2; subst q3
        have q4 : (s.heap.push (Fy b)).get? l = some { cls := .type "list", dict := od, data := .seq its nl, slots := os } := Heap.get?_push_of_some _ q1
        have u1 := PySem.F.sub_list_set
        have u2 := PySem.F.sub_list_frozenset
        have u3 : (Value.type "list" == Value.type "dict") = false := by decide
        have u4 : (s.heap.push (Fy b)).IsList l its := ⟨_, q4, rfl, nl, rfl⟩
        unfold Builtin.«set.__init__» noKeywords Builtin.Frozenset.updateFrom
        generalize gP : pyIter = PI
        wp_walk
        subst gP
        refine wpAny_pyIter_list u4 (wpAny_bind (wpAny_runValue ?_))
        have lS : l < s.heap.objs.size := Heap.lt_size q1
        have n1 : l ≠ (s.heap.push (Fy b)).objs.size := by rw [Heap.size_push]; exact Nat.ne_of_lt (Nat.lt_succ_of_lt lS)
        have n2 : s.heap.objs.size ∉ [(s.heap.push (Fy b)).objs.size, l] := by
          rw [Heap.size_push]
          simp only [List.mem_cons, List.not_mem_nil, or_false, not_or]
          exact ⟨Nat.ne_of_lt (Nat.lt_succ_self _), Nat.ne_of_gt lS⟩
        refine Zg (kn := kn) ((Walks.list (by simp [hh]) _ l n1 its).toS) s.heap.objs.size n2 f hv hb (its.size - 0) 0 _ (by omega) (Nat.zero_le _) ⟨⟨_, Heap.get?_push_size _ rfl, rfl, rfl⟩, (u4.push _)⟩ ?start ?fin
        case start => exact (PyProof.Rows.setObjOf_fresh (knd := kn) b).setOf (Heap.get?_push_of_some _ y1) (by unfold scanBound; omega)
        case fin =>
          intro s3 mv hT
          obtain ⟨h3, g3, d3, t3, o3⟩ := s3
          have w1 : g3 = s.gens := mv.gens
          have w2 : d3 = s.drawn := mv.drawn
          have w3 : o3 = s.os := mv.os
          subst w1; subst w2; subst w3
          change wpAny _ _ _ _ _ _
          refine wpAny_pure ?_
          change wpAny _ _ (ret Value.none) _ _ _
          refine wpAny_pure ⟨rfl, h3, t3, rfl, hT, fun b2 o hb2 e => ?_⟩
          refine mv.heap b2 o ?_ (Heap.get?_push_of_some _ (Heap.get?_push_of_some _ e))
          simp only [List.mem_cons, List.not_mem_nil, or_false, not_or]
          exact ⟨Nat.ne_of_lt hb2, by rw [Heap.size_push]; exact Nat.ne_of_lt (Nat.lt_succ_of_lt hb2)⟩
      · cases r2 with
        | error e => exact z2
        | ok fl2 =>
          cases fl2 with
          | ret r =>
            obtain ⟨rfl, h1, tk, rfl, hT, hk⟩ := z2
            repeat (any_goals (first | assumption | wp_step))
            exact hq _ _ hT hk
          | _ => exact z2.elim
    | _ => exact z.elim
end
end DD
namespace DD
open PySem PySem.Spec L2
open PyProof.Rows hiding St RelV
variable {g : G} {X : Cx} {pos apos cpos p2 : Pos} {F : Nat} {a b c : Expr} {a' b' c' : E}
abbrev kAt (ks : List Key) (i : Nat) : Key := (ks[i]?).getD (.inl 0)
def tLS (K : PySem.W.Frag) (te : TE) : TE := fun sg H Q => te sg H fun x H1 => ∃ a ks, x = .ref a ∧ SqL K H1 a (ks.map kV) ∧ ks.length < 4000 ∧ Q (.int ((met (kAt ks) ks.length).length : Nat)) H1
theorem Zh (r : RelV (kV k) u) : u.scannable = true := by
 cases k with
 | inl i => obtain ⟨t, e⟩ := (show ∃ t, u = Value.int i t from r); subst e; rfl
 | inr x => obtain ⟨t, e⟩ := (show ∃ t, u = Value.str x t from r); subst e; rfl
theorem zi : ∀ {us : List Value}, Vals (ks.map kV) us → ∀ (i : Nat) (u : Value), us[i]? = some u → RelV (kV (kAt ks i)) u := by
 induction ks with
 | nil => intro us h i u e; rw [List.map_nil] at h; cases h; simp at e
 | cons k r ih =>
  intro us h i u e
  rw [List.map_cons] at h
  cases h with
  | cons p t =>
   cases i with
   | zero => simp only [List.getElem?_cons_zero, Option.some.injEq] at e; subst e; exact p
   | succ i => simp only [List.getElem?_cons_succ] at e; have := ih t i u e; simpa [kAt] using this
theorem Zi {n1 n2 : Pos} (hc : X.calm = true) (hg : Gl X "len") (hm : X.mg "len" = none) (hg2 : Gl X "set") (hm2 : X.mg "set" = none) (ha : PE X e te)
    (he : starEach [.Call (.Name "set" n2) [e] [] cpos] X.env = (false, eval (.Call (.Name "set" n2) [e] [] cpos) X.env) :: starEach [] X.env := by rfl) (hpl : (backTo pos (starEach [] X.env)).any (·.1) = false := by rfl)
    (he2 : starEach [e] X.env = (false, eval e X.env) :: starEach [] X.env := by rfl) (hpl2 : (backTo cpos (starEach [] X.env)).any (·.1) = false := by rfl) :
    PE X (.Call (.Name "len" n1) [.Call (.Name "set" n2) [e] [] cpos] [] pos) (tLS X.K te) := by
  intro pins s sg H Q I h
  refine wpAny_Call_Name_kw (Gk I hg hm rfl ?_ (by decide) (by decide))
  refine PyProof.Rows.callWith_builtin1 ?_ he hpl
  rw [he]
  show wpAny _ _ (spliced ((false, eval (.Call (.Name "set" n2) [e] [] cpos) X.env) :: backTo pos (starEach [] X.env))) _ _ s
  refine Calls.spliced_cons ?_
  refine wpAny_Call_Name_kw (Gk I hg2 hm2 rfl ?_ (by decide) (by decide))
  refine PyProof.Rows.callWith_type1 ?_ he2 hpl2
  rw [he2]
  show wpAny _ _ (spliced ((false, eval e X.env) :: backTo cpos (starEach [] X.env))) _ _ s
  refine Calls.spliced_cons (thn (ha pins s sg H _ I h) fun u s1 ⟨x, H1, I1, rx, q, ks, ex, hx, hz, q1⟩ => Calls.spliced_nil ?_)
  subst ex
  cases rx
  obtain ⟨its, r, ht, _⟩ := I1.list hx
  have hlen : its.length = ks.length := by have := r.length; simpa using this.symm
  have hsz : its.toArray.size = ks.length := by rw [List.size_toArray]; exact hlen
  refine zh (kn := cp X.prog X.w) (f := kAt ks) (I1.ok.hd hc) ht.isList (fun i v e => ?_) (by rw [hsz]; unfold scanBound; omega) fun h1 tk hS hk => Calls.spliced_nil ?_
  · have e : its[i]? = some v := by simpa using e
    have rk := zi r i v e
    exact ⟨Ju rk, Zh rk⟩
  · rw [hsz] at hS
    obtain ⟨o, es, ep, t, ho, hex, hd, hel, hmem, hb, hf, hn⟩ := hS
    refine call_len_set ho hex hd hf (by unfold scanBound at hb; omega) ?_
    refine ⟨.int ((met (kAt ks) ks.length).length : Nat), H1, I1.kept (t' := tk + 1 + 1) fun b ob z => hk b ob (Heap.lt_size z) z, ⟨_, by rw [hn]⟩, q1⟩
def je {α : Type} [DecidableEq α] (acc : List α) (x : α) : List α := if x ∈ acc then acc else acc ++ [x]
theorem Qr : ∀ i, i ≤ ks.length → met (kAt ks) i = (ks.take i).foldl je []
 | 0, _ => by simp [met]
 | i + 1, h => by
  have ih := Qr (ks := ks) i (by omega)
  have hi : i < ks.length := by omega
  rw [List.take_succ, List.getElem?_eq_getElem hi]
  simp only [Option.toList, List.foldl_append, List.foldl_cons, List.foldl_nil, ← ih]
  have hk : kAt ks i = ks[i] := by simp [kAt, List.getElem?_eq_getElem hi]
  simp only [met, je]
  rw [hk]
theorem Qs (h : Paired (fun d k => kD d = some k) acc ak) (e : kD d = some k) : d ∈ acc ↔ k ∈ ak := by
 induction h with
 | nil => simp
 | @cons x y t r p q ih =>
  simp only [List.mem_cons, ih]
  constructor
  · rintro (z | z)
    · subst z; rw [e] at p; cases p; exact .inl rfl
    · exact .inr z
  · rintro (z | z)
    · subst z; exact .inl (kc e p)
    · exact .inr z
theorem zj (h : Paired (fun d k => kD d = some k) acc ak) (e : kD d = some k) : Paired (fun d k => kD d = some k) (acc ++ [d]) (ak ++ [k]) := by
 induction h with
 | nil => exact .cons e .nil
 | cons p q ih => exact .cons p ih
theorem Zj (h : Paired (fun d k => kD d = some k) xs ks) : ∀ {acc : List D} {ak : List Key}, Paired (fun d k => kD d = some k) acc ak → Paired (fun d k => kD d = some k) (xs.foldl je acc) (ks.foldl je ak) := by
 induction h with
 | nil => intro acc ak h; exact h
 | @cons x y t r p q ih =>
  intro acc ak h
  simp only [List.foldl_cons]
  refine ih ?_
  unfold je
  by_cases z : x ∈ acc
  · rw [if_pos z, if_pos ((Qs h p).mp z)]; exact h
  · rw [if_neg z, if_neg (fun z2 => z ((Qs h p).mpr z2))]; exact zj h p
theorem qt (h : Paired (fun d k => kD d = some k) acc ak) : acc.length = ak.length := by
 induction h with
 | nil => rfl
 | cons p q ih => simp [ih]
theorem zk (h : Paired (fun d k => kD d = some k) xs ks) : (ph xs).length = (met (kAt ks) ks.length).length := by
 rw [Qr _ (Nat.le_refl _), List.take_length]
 exact qt (Zj h .nil)
theorem Qt : ∀ {xs : List D} {rho : List Addr} {H : Hp} {vs : List V}, xs.all Dq = true → g.RepL rho H xs vs → ∃ ks : List Key, Paired (fun d k => kD d = some k) xs ks ∧ vs = ks.map kV
 | [], rho, H, vs, _, h => by simp only [G.RepL, RepL] at h; subst h; exact ⟨[], .nil, rfl⟩
 | d :: r, rho, H, vs, hk, h => by
  simp only [List.all_cons, Bool.and_eq_true] at hk
  simp only [G.RepL, RepL] at h
  obtain ⟨v, t, rfl, rd, q⟩ := h
  obtain ⟨k, ek⟩ := ma hk.1
  obtain ⟨ks, p, rfl⟩ := Qt hk.2 q
  exact ⟨k :: ks, .cons ek p, by rw [List.map_cons, Ma rd ek]⟩
theorem Zk {n1 n2 : Pos} (hK : X.K = g.K) (hc : X.calm = true) (hg : Gl X "len") (hm : X.mg "len" = none) (hg2 : Gl X "set") (hm2 : X.mg "set" = none) (ha : Sd g X e e')
    (he : starEach [.Call (.Name "set" n2) [e] [] cpos] X.env = (false, eval (.Call (.Name "set" n2) [e] [] cpos) X.env) :: starEach [] X.env := by rfl) (hpl : (backTo pos (starEach [] X.env)).any (·.1) = false := by rfl)
    (he2 : starEach [e] X.env = (false, eval e X.env) :: starEach [] X.env := by rfl) (hpl2 : (backTo cpos (starEach [] X.env)).any (·.1) = false := by rfl) :
    Sd g X (.Call (.Name "len" n1) [.Call (.Name "set" n2) [e] [] cpos] [] pos) (.bt .lenSetB (.cons e' .nil)) := bb (Zi hc hg hm hg2 hm2 ha he hpl he2 hpl2) fun sg H Q q => by
  obtain ⟨rho, st, env, s, n, q⟩ := q
  simp only [Ad, Au, bo, bind_assoc] at q
  refine step s n q fun d st1 x H1 r1 k1 s1 n1 rp q1 => ?_
  cases d with
  | loc j =>
    simp only [btD] at q1
    split at q1
    · rename_i xs ed
      split at q1
      · rename_i hz
        obtain ⟨p, vs, h1, sq, rl⟩ := Ei s1 ed
        obtain ⟨p2, h2, rfl⟩ := Bl.mp rp
        rw [h1] at h2; cases h2
        obtain ⟨ks, pk, rfl⟩ := Qt hz.1 rl
        refine ⟨p, ks, rfl, by rw [hK]; exact sq, by rw [← qt pk]; exact hz.2, ?_⟩
        rw [zk pk] at q1
        exact (show ar g rho H Q (.int _) st1 from q1) _ H1 r1 k1 s1 (aw.mpr rfl)
      · exact q1.elim
    · exact q1.elim
  | _ => exact q1.elim
section
variable {pr : Program} {w : World} {A : Around} {Er : Value → Shared → Prop}
end
variable {g : G} {X : Cx} {pos apos cpos p2 : Pos} {F : Nat} {a b c : Expr} {a' b' c' : E}
theorem Ie (hg : Gl X x) (hm : X.mg x = some u) (r : RelV v u) (hr : ∀ rho H, g.Rep rho H d v) (hd : (x == ("__debug__" : Str)) = false := by decide) : Sd g X (.Name x pos) (.cst d) :=
 bb (iz hg hm r hd) fun sg H Q q => by
  obtain ⟨rho, st, env, s, n, q⟩ := q
  simp only [Ad] at q
  exact (show ar g rho H Q d st from q) _ H rho (.refl _ _) s (hr rho H)
variable {g : G} {X : Cx} {pos : Pos} {F : Nat}
end DD
namespace DD
open PySem PySem.Spec L2
open PyProof.Rows hiding St
theorem qu {K : PySem.W.Frag} {rho : List Addr} {H : Hp} : ∀ ns : List Int, RepL K rho H (ns.map D.int) (ns.map V.int)
 | [] => by simp [RepL]
 | n :: r => by simp only [List.map_cons, RepL]; exact ⟨_, _, rfl, by simp [Rep], qu r⟩
theorem zl {K : PySem.W.Frag} {cls : CW} {run : List D → Sto → Res D} {ns : List Int} {st : Sto} (e : run [.loc 0] [.frz (ns.map D.int)] = .ok (.bl true) st)
    (H : Hp) (a : Addr) (hO : Jv H) (hS : SqL K H a (ns.map V.int)) : spD K cls 1 run [.ref a] H (fun v _ => v = .bl true) fun _ _ _ => False := by
  refine ⟨rfl, [a], [.frz (ns.map D.int)], [.loc 0], ⟨rfl, ?_, ?_⟩, ?_, ?_⟩
  · intro n k b c d h1 h2 h3 h4 t1 t2
    cases n with
    | zero => cases h3; cases t1
    | succ n => cases h3
  · intro n b c h1 h2
    cases n with
    | zero =>
      cases h1; cases h2
      refine ⟨ns.map V.int, ?_, qu ns⟩
      rcases hS with h | h
      · rcases h with h | ⟨o, h⟩
        · rcases hO _ with z | ⟨o, xs, z⟩
          · rw [h] at z; cases z
          · rw [h] at z; cases z
        · exact .inl ⟨o, h⟩
      · exact .inr h
    | succ n => cases h1
  · simp [RepL, Rep]
  · rw [e]
    intro v H' rho' _ _ r
    simpa [Rep] using r
theorem Zl (H : Hp) (s : Shared) (e : Value) (s' : Shared) (h : CXd P w [] H s (fun _ _ _ => False) e s') : False := by
 obtain ⟨_, _, _, _, _, _, _, z⟩ := h
 exact z
theorem sv {g : G} {pos : Pos} (h : X.env.scope.names.lookup x = some NameKind.local) (hN : X.N[i]? = some x := by rfl) (hd : (x == ("__debug__" : Str)) = false := by decide) (hcd : (x == ("__classdict__" : Str)) = false := by decide) : Sd g X (.Name x pos) (.var i) := Cu i (pv i hN (Or.inl h) hd hcd)
theorem Aj {g : G} : ∀ rho H, g.RepL rho H [] [] := fun _ _ => by simp [DD.RepL]
variable {g : G} {X : Cx} {pos : Pos}
end DD
namespace DD
open PySem L2
section
variable {t : Nat → Ty → Option Bool} {call : Or} {F : Nat} {env : DD.Env} {st : Sto}
theorem zm : aj t call F .nil env st = .ok (.next env) st := by simp only [aj]
theorem mn : aj t call F (.cons s r) env st = (An t call F s env st).bind fun f st => match f with
      | .next env' => aj t call F r env' st
      | f => .ok f st := by simp only [aj] <;> rfl
theorem Zm : An t call F (.set i e) env st = (Ad t call e env st).bind fun d st => if i < env.length then .ok (.next (env.set i (some d))) st else .bad := by simp only [An]
theorem Zn : An t call F (.unp is e) env st = (Ad t call e env st).bind fun d st => match store is false d env with | some env' => .ok (.next env') st | none => .bad := by simp only [An] <;> rfl
theorem zo : An t call F (.par i j a b) env st = (Ad t call a env st).bind fun x st => (Ad t call b env st).bind fun y st => if i < env.length ∧ j < env.length then .ok (.next ((env.set i (some x)).set j (some y))) st else .bad := by simp only [An]
theorem Mn : An t call F (.ifS c a b) env st = (aq t call c env st).bind fun x st => if x then aj t call F a env st else aj t call F b env st := by simp only [An]
theorem Qu : An t call F (.ret e) env st = (Ad t call e env st).bind fun d st => .ok (.ret d) st := by simp only [An]
theorem qv : An t call F (.ex e) env st = (Ad t call e env st).bind fun d st => .ok (.next env) st := by simp only [An]
theorem x_raise : An t call F (.raiseS c) env st = .exc c st := by simp only [An]
theorem Zo : An t call F (.whileS c b) env st = whileLoop (aq t call c) (aj t call F b) F env st := by simp only [An]
end
section
variable {t : Nat → Ty → Option Bool} {call : Or} {F : Nat} {env : DD.Env} {st : Sto}
def turn (t : Nat → Ty → Option Bool) (call : Or) (F : Nat) (tg : List Nat) (one : Bool) (b : Ss) (d : D) (env : DD.Env) (st : Sto) : Res Fl := match store tg one d env with | some env' => aj t call F b env' st | none => .bad
theorem zp {tg : List Nat} {one : Bool} {b : Ss} {d : D} {env' : DD.Env} (h : store tg one d env = some env') : turn t call F tg one b d env st = aj t call F b env' st := by unfold turn; rw [h]
theorem Zp {tg : List Nat} {one k : Bool} {it : E} {b : Ss} : An t call F (.forS tg one k it b) env st = (Ad t call it env st).bind fun d st => match gr k st d with
      | some (xs, p) => forLoop xs p (turn t call F tg one b) xs env st
      | none => .bad := by simp only [An] <;> rfl
theorem zq {tg : List Nat} {es : Es} {b : Ss} : An t call F (.forR tg es b) env st = (Au t call es env st).bind fun ds st => match Ef ds with
      | some xs => forLoop xs none (turn t call F tg true b) xs env st
      | none => .bad := by simp only [An] <;> rfl
end
theorem qw {all : List D} {p : Option Nat} {body : D → DD.Env → Sto → Res Fl} {J : Nat → DD.Env → Sto → Prop} (hs : ∀ i env st, J i env st → stays st p all = true) :
    ∀ (xs : List D) (i : Nat) (env : DD.Env) (st : Sto), J i env st → (∀ (j : Nat) (d : D), xs[j]? = some d → ∀ env st, J (i + j) env st → ∃ env' st', body d env st = .ok (.next env') st' ∧ J (i + j + 1) env' st') →
    ∃ env' st', forLoop all p body xs env st = .ok (.next env') st' ∧ J (i + xs.length) env' st'
  | [], i, env, st, h, _ => ⟨env, st, by simp only [forLoop]; rw [if_pos (hs _ _ _ h)], h⟩
  | d :: r, i, env, st, h, ht => by
    obtain ⟨e1, s1, h1, h2⟩ := ht 0 d rfl env st h
    obtain ⟨e2, s2, h3, h4⟩ := qw hs r (i + 1) e1 s1 h2 fun j x hx env st hj => by
      have := ht (j + 1) x (by simpa using hx) env st (by rwa [show i + (j + 1) = i + 1 + j by omega])
      rwa [show i + (j + 1) + 1 = i + 1 + j + 1 by omega] at this
    refine ⟨e2, s2, ?_, by rwa [show i + (d :: r).length = i + 1 + r.length by simp; omega]⟩
    simp only [forLoop]
    rw [if_pos (hs _ _ _ h), h1, bo]
    exact h3
def Fr (st st' : Sto) : Prop := ∀ j, j < st.length → st'[j]? = st[j]?
theorem Fr.app (m : Sto) : Fr st (st ++ m) := fun j h => List.getElem?_append_left h
theorem Fr.at {st st' : Sto} (h : Fr st st') {j : Nat} {c : Cell} (e : st[j]? = some c) : st'[j]? = some c := by rw [h j (List.getElem?_eq_some_iff.mp e).1]; exact e
theorem Fr.len (h : Fr st st') : st.length ≤ st'.length := by
 cases Nat.lt_or_ge st'.length st.length with
 | inr g => exact g
 | inl g =>
  have h1 := h st'.length g
  rw [List.getElem?_eq_none (Nat.le_refl _), List.getElem?_eq_getElem g] at h1
  cases h1
theorem Fr.trans {a b c : Sto} (h : Fr a b) (k : Fr b c) : Fr a c := fun j hj => (k j (Nat.lt_of_lt_of_le hj h.len)).trans (h j hj)
theorem Fr.set (h : Fr a b) (hn : a.length ≤ n) (c : Cell) : Fr a (b.set n c) := fun j hj => by
 rw [List.getElem?_set_ne (by omega)]; exact h j hj
theorem Fr.lst (h : Fr st st') (e : Az st n = some xs) : Az st' n = some xs := by
 unfold Az at e ⊢
 cases z : st[n]? with
 | none => rw [z] at e; cases e
 | some c => rw [h.at z]; rw [z] at e; exact e
section
variable {st : Sto}
theorem Zq : opD .add (.int i) (.int j) st = .ok (.int (i + j)) st := by simp only [opD]
theorem zr : opD .sub (.int i) (.int j) st = .ok (.int (i - j)) st := by simp only [opD]
theorem Qw (h : fw i j) : opD .mul (.int i) (.int j) st = .ok (.int (i * j)) st := by simp only [opD]; rw [if_pos h]
theorem Zr (h : Fw j) : opD .fdiv (.int i) (.int j) st = .ok (.int (i.fdiv j)) st := by simp only [opD]; rw [if_pos h]
theorem Zs (h : j ≠ 0) : opD .mod (.int i) (.int j) st = .ok (.int (i.fmod j)) st := by simp only [opD]; rw [if_pos h]
theorem zt (h : Iz i j) : opD .pow (.int i) (.int j) st = .ok (.int (i ^ j.toNat)) st := by simp only [opD]; rw [if_pos h]
theorem Zt (hn : st[n]? = some (.lst xs)) (hm : st[m]? = some (.lst ys)) (h : xs.length + ys.length ≤ sizeLine) : opD .add (.loc n) (.loc m) st = .ok (.loc st.length) (st ++ [.lst (xs ++ ys)]) := by
 simp only [opD, hn, hm]; rw [if_pos h]
theorem zu : cmD .eq (.int i) (.int j) st = .ok (.bl (decide (i = j))) st := by simp [cmD, eqV, Aq, PyData.eqv] <;> rfl
theorem Zu : cmD .ne (.int i) (.int j) st = .ok (.bl (!decide (i = j))) st := by simp [cmD, eqV, Aq, PyData.eqv] <;> rfl
theorem Zv : cmD .lt (.int i) (.int j) st = .ok (.bl (decide (i < j))) st := by simp only [cmD]
theorem zw : cmD .gt (.int i) (.int j) st = .ok (.bl (decide (j < i))) st := by simp only [cmD]
theorem Zw : cmD .ge (.int i) (.int j) st = .ok (.bl (decide (j ≤ i))) st := by simp only [cmD]
theorem zx : btD .absB [.int i] st = .ok (.int (if i < 0 then -i else i)) st := by simp only [btD]
theorem Zx : btD .lenB [.tup xs] st = .ok (.int xs.length) st := by simp only [btD]
theorem zy (h : Az st n = some xs) : btD .lenB [.loc n] st = .ok (.int xs.length) st := by simp only [btD, h]
theorem Zy (e : L2.atI xs i = some d) : ixD (.tup xs) (.int i) st = .ok d st := by simp only [ixD, ixS, dq, atD, e]
theorem Mo (h : Az st n = some xs) : Cc st n = none ∧ jw st n = none ∧ Pg st n = none := by
 unfold Az at h; unfold Cc jw Pg
 cases z : st[n]? with
 | none => exact ⟨rfl, rfl, rfl⟩
 | some c => rw [z] at h; cases c <;> first | exact ⟨rfl, rfl, rfl⟩ | cases h
theorem zz (h : Az st n = some xs) (e : L2.atI xs i = some d) : ixD (.loc n) (.int i) st = .ok d st := by
 simp only [ixD, (Mo h).1, (Mo h).2.1, (Mo h).2.2, ixS, dq, h, atD, e]
end
section
variable {t : Nat → Ty → Option Bool} {call : Or} {env : DD.Env} {st : Sto}
theorem Zz : Ad t call (.var i) env st = match cz env i with | some d => .ok d st | none => .bad := by simp only [Ad] <;> rfl
theorem aaa (h : cz env i = some d) : Ad t call (.var i) env st = .ok d st := by rw [Zz, h]
theorem aab : Ad t call (.cst d) env st = .ok d st := by simp only [Ad]
end
theorem gg {st m : Sto} {k : Nat} : (st ++ m)[st.length + k]? = m[k]? := by
 rw [List.getElem?_append_right (by omega)]; congr 1; omega
theorem Je : ∀ {n m : Nat} {d : D}, okN n d = true → n ≤ m → Aq st m d = some (pyN n d)
 | n, m, .int i, _, _ => by cases m <;> cases n <;> simp [Aq, pyN]
 | n, m, .str x, h, _ => by
  have h2 : PyData.canLay0 (.str x) = true := by cases n <;> simpa [okN] using h
  cases m <;> cases n <;> simp [Aq, pyN, h2]
 | 0, m, .tup ds, h, _ => by simp [okN] at h
 | n + 1, 0, .tup ds, _, h => by omega
 | n + 1, m + 1, .tup ds, h, hm => by
  have all : ∀ ds : List D, ds.all (okN n) = true → Ca (ds.map (Aq st m)) = some (ds.map (pyN n)) := by
   intro ds
   induction ds with
   | nil => intro _ <;> rfl
   | cons d r ih =>
    intro h
    simp only [List.all_cons, Bool.and_eq_true] at h
    simp only [List.map_cons, Je h.1 (by omega : n ≤ m), Ca, ih h.2, Option.map_some]
  have h : ds.all (okN n) = true := by simpa [okN] using h
  simp only [Aq, all ds h, Option.map_some, pyN]
 | n, m, .non, h, _ => by cases n <;> simp [okN] at h
 | n, m, .bl b, h, _ => by cases n <;> simp [okN] at h
 | n, m, .loc b, h, _ => by cases n <;> simp [okN] at h
theorem qx : ∀ {n : Nat} {x y : D}, okN n x = true → okN n y = true → PyData.eqv (pyN n x) (pyN n y) = decide (x = y) := by
 intro n
 induction n with
 | zero =>
  intro x y h1 h2
  cases x <;> simp [okN] at h1 <;> cases y <;> simp [okN] at h2 <;> simp [pyN, PyData.eqv] <;> (first | rfl | exact Bool.beq_eq_decide_eq _ _)
 | succ n ih =>
  intro x y h1 h2
  cases x with
  | int i => cases y <;> simp [okN] at h2 <;> simp [pyN, PyData.eqv] <;> rfl
  | str i => cases y <;> simp [okN] at h2 <;> simp [pyN, PyData.eqv] <;> rfl
  | tup ds =>
   cases y with
   | int i => simp [pyN, PyData.eqv]
   | str i => simp [pyN, PyData.eqv]
   | tup es =>
    have all : ∀ ds es : List D, ds.all (okN n) = true → es.all (okN n) = true → PyData.eqvAll (ds.map (pyN n)) (es.map (pyN n)) = decide (ds = es) := by
     intro ds
     induction ds with
     | nil => intro es _ _; cases es <;> simp [PyData.eqvAll]
     | cons d r ih2 =>
      intro es h1 h2
      cases es with
      | nil => simp [PyData.eqvAll]
      | cons e t =>
       simp only [List.all_cons, Bool.and_eq_true] at h1 h2
       simp only [List.map_cons, PyData.eqvAll, ih h1.1 h2.1, ih2 t h1.2 h2.2, List.cons.injEq, Bool.decide_and]
    simp only [pyN, PyData.eqv, all ds es (by simpa [okN] using h1) (by simpa [okN] using h2)]
    simp
   | _ => simp [okN] at h2
  | _ => simp [okN] at h1
section
variable {st : Sto} {n : Nat} {a b : D} {xs ys : List D}
theorem aac (ha : okN 40 a = true) (hb : okN 40 b = true) : cmD .eq a b st = .ok (.bl (decide (a = b))) st := by
 simp only [cmD, eqV, Je ha (Nat.le_refl _), Je hb (Nat.le_refl _), qx ha hb]
end
theorem Dc (h : st[n]? = some (.lst xs)) : Az st n = some xs := by simp only [Az, h]
theorem Fr.keep {a b : Sto} (h : Fr a b) {n : Nat} {c : Cell} (e : a[n]? = some c) : b[n]? = some c := h.at e
def Wr {α : Type} (r : Res α) (Q : α → Sto → Prop) : Prop := ∃ a s, r = .ok a s ∧ Q a s
section
variable {α β : Type} {r : Res α} {Q P : α → Sto → Prop} {a : α} {s : Sto}
theorem Bo (h : Q a s) : Wr (.ok a s) Q := ⟨a, s, rfl, h⟩
theorem Bi (e : r = .ok a s) (h : Q a s) : Wr r Q := ⟨a, s, e, h⟩
theorem Wr.imp (h : Wr r P) (g : ∀ a s, P a s → Q a s) : Wr r Q := by
 obtain ⟨a, s, e, p⟩ := h
 exact ⟨a, s, e, g a s p⟩
theorem As (h : Wr r fun a s => Wr (f a s) R) : Wr (r.bind f) R := by
 obtain ⟨a, s, rfl, p⟩ := h
 exact p
theorem bx (h : A) : ((true = true → A) ∧ (true = false → B)) := ⟨fun _ => h, fun h => by cases h⟩
theorem Bg (h : B) : ((false = true → A) ∧ (false = false → B)) := ⟨(fun h => by cases h), fun _ => h⟩
end
section
variable {t : Nat → Ty → Option Bool} {call : Or} {F : Nat} {env : DD.Env} {st : Sto} {Q : D → Sto → Prop} {QL : List D → Sto → Prop} {QB : Bool → Sto → Prop} {QF : Fl → Sto → Prop}
theorem w_var (h : cz env i = some d) (q : Q d st) : Wr (Ad t call (.var i) env st) Q := ⟨d, st, aaa h, q⟩
theorem Ac (q : Q d st) : Wr (Ad t call (.cst d) env st) Q := ⟨d, st, aab, q⟩
theorem af (q : QL [] st) : Wr (Au t call .nil env st) QL := ⟨[], st, by rw [Au], q⟩
theorem Aa (h : Wr (Ad t call e env st) fun d s => Wr (Au t call es env s) fun ds s => QL (d :: ds) s) : Wr (Au t call (.cons e es) env st) QL := by
 rw [Au]
 exact As (h.imp fun d s h => As (h.imp fun ds s h => Bo h))
theorem Gu (q : QL [] st) : Wr (Eg t call .nil env st) QL := ⟨[], st, by rw [Eg], q⟩
theorem Fz (h : Wr (Ad t call e env st) fun d s => ∃ i, d = .int i ∧ Wr (Eg t call es env s) fun ds s => QL (.int i :: ds) s) : Wr (Eg t call (.cons e es) env st) QL := by
 rw [Eg]
 refine As (h.imp fun d s h => ?_)
 obtain ⟨i, rfl, h⟩ := h
 exact As (h.imp fun ds s h => Bo h)
theorem ao (h : Wr (Au t call es env st) fun ds s => ds.length ≤ sizeLine ∧ Q (.tup ds) s) : Wr (Ad t call (.tupE es) env st) Q := by
 rw [Ad]
 refine As (h.imp fun ds s h => ?_)
 rw [if_pos h.1]; exact Bo h.2
theorem dg (h : Wr (Au t call es env st) fun ds s => ds.length ≤ sizeLine ∧ Q (.loc s.length) (s ++ [.lst ds])) : Wr (Ad t call (.lstE es) env st) Q := by
 rw [Ad]
 refine As (h.imp fun ds s h => ?_)
 rw [if_pos h.1]; exact Bo h.2
theorem ai (h : Wr (Ad t call a env st) fun x s => Wr (Ad t call b env s) fun y s => Wr (opD o x y s) Q) : Wr (Ad t call (.op o a b) env st) Q := by
 rw [Ad]
 exact As (h.imp fun _ _ h => As h)
theorem kh (h : Wr (Ad t call a env st) fun x s => Wr (Ad t call b env s) fun y s => Wr (cmD o x y s) Q) : Wr (Ad t call (.cm o a b) env st) Q := by
 rw [Ad]
 exact As (h.imp fun _ _ h => As h)
theorem w_and (h : Wr (Ad t call a env st) fun x s => ∃ c, x = .bl c ∧ (c = true → Wr (Ad t call b env s) Q) ∧ (c = false → Q (.bl false) s)) : Wr (Ad t call (.andE a b) env st) Q := by
 rw [Ad]
 refine As (h.imp fun _ _ h => ?_)
 obtain ⟨c, rfl, h1, h2⟩ := h
 cases c with
 | true => exact h1 rfl
 | false => exact Bo (h2 rfl)
theorem w_not (h : Wr (Ad t call a env st) fun x s => ∃ c, x = .bl c ∧ Q (.bl (!c)) s) : Wr (Ad t call (.notE a) env st) Q := by
 rw [Ad]
 refine As (h.imp fun _ _ h => ?_)
 obtain ⟨c, rfl, h1⟩ := h
 exact Bo h1
theorem Kh (h : Wr (aq t call c env st) fun x s => (x = true → Wr (Ad t call a env s) Q) ∧ (x = false → Wr (Ad t call b env s) Q)) : Wr (Ad t call (.ifE c a b) env st) Q := by
 rw [Ad]
 refine As (h.imp fun x _ h => ?_)
 cases x with
 | true => exact h.1 rfl
 | false => exact h.2 rfl
theorem av (h : Wr (Au t call es env st) fun ds s => Wr (call f (ds ++ dv) s) Q) : Wr (Ad t call (.call f es dv) env st) Q := by
 rw [Ad]; exact As h
theorem cw (h : Wr (Au t call es env st) fun ds s => Wr (btD f ds s) Q) : Wr (Ad t call (.bt f es) env st) Q := by
 rw [Ad]; exact As h
theorem bq (h : Wr (Ad t call a env st) fun x s => Wr (Ad t call b env s) fun y s => Wr (ixD x y s) Q) : Wr (Ad t call (.ix a b) env st) Q := by
 rw [Ad]
 exact As (h.imp fun _ _ h => As h)
theorem Ga (h : Wr (Ad t call a env st) fun x s => ∃ u c, Cy s x = some u ∧ Dw t u ty = some c ∧ Q (.bl c) s) : Wr (Ad t call (.isi a ty) env st) Q := by
 rw [Ad]
 refine As (h.imp fun x s h => ?_)
 obtain ⟨u, c, h1, h2, h3⟩ := h
 rw [h1, Option.bind_some, h2]; exact Bo h3
theorem gv (h : Wr (Ad t call a env st) fun x s => Wr (Eg t call es env s) fun ds s => Wr (slD k x ds s) Q) : Wr (Ad t call (.sl k a es) env st) Q := by
 rw [Ad]
 exact As (h.imp fun _ _ h => As h)
theorem w_fld (h : Wr (Ad t call o env st) fun x s => ∃ n fs d, x = .loc n ∧ s[n]? = some (.ins c fs) ∧ fs.lookup f = some d ∧ Q d s) : Wr (Ad t call (.fld c o f) env st) Q := by
 rw [Ad]
 refine As (h.imp fun x s h => ?_)
 obtain ⟨n, fs, d, rfl, h1, h2, h3⟩ := h
 simp only [h1, h2, if_true]
 exact Bo h3
theorem jf (h : Wr (Ad t call o env st) fun x s => ∃ n fs, x = .loc n ∧ s[n]? = some (.ins c fs) ∧ fs.lookup m = none ∧ Wr (Au t call es env s) fun ds s => Wr (call f (.loc n :: ds) s) Q) : Wr (Ad t call (.En c f m o es) env st) Q := by
 rw [Ad]
 refine As (h.imp fun x s h => ?_)
 obtain ⟨n, fs, rfl, h1, h2, h3⟩ := h
 simp only [h1, h2, and_self, if_true]
 exact As h3
theorem Mp (h : Wr (Ad t call o env st) fun x s => rdy m s x = true ∧ Wr (Au t call es env s) fun ds s => Wr (mtD m x ds s) Q) : Wr (Ad t call (.mt m o es) env st) Q := by
 rw [Ad]
 refine As (h.imp fun x s h => ?_)
 rw [if_pos h.1]; exact As h.2
theorem aad (h : Wr (aq t call a env st) fun x s => (x = true → Wr (aq t call b env s) QB) ∧ (x = false → QB false s)) : Wr (aq t call (.andE a b) env st) QB := by
 rw [aq]
 refine As (h.imp fun x _ h => ?_)
 cases x with
 | true => exact h.1 rfl
 | false => exact Bo (h.2 rfl)
theorem Cd (h : Wr (aq t call a env st) fun x s => (x = true → QB true s) ∧ (x = false → Wr (aq t call b env s) QB)) : Wr (aq t call (.orE a b) env st) QB := by
 rw [aq]
 refine As (h.imp fun x _ h => ?_)
 cases x with
 | true => exact Bo (h.1 rfl)
 | false => exact h.2 rfl
theorem Ce (h : Wr (aq t call a env st) fun x s => QB (!x) s) : Wr (aq t call (.notE a) env st) QB := by
 rw [aq]
 exact As (h.imp fun x _ h => Bo h)
theorem ax (h : Wr (Ad t call a env st) fun x s => Wr (Ad t call b env s) fun y s => Wr (cmD o x y s) fun d s => ∃ c, d = .bl c ∧ QB c s) : Wr (aq t call (.cm o a b) env st) QB := by
 rw [aq]
 refine As (h.imp fun _ _ h => As (h.imp fun _ _ h => As (h.imp fun d s h => ?_)))
 obtain ⟨c, rfl, h⟩ := h
 exact Bo h
theorem El (h : Wr (Au t call es env st) fun ds s => Wr (call f (ds ++ dv) s) fun d s => ∃ c, truth s d = some c ∧ QB c s) : Wr (aq t call (.call f es dv) env st) QB := by
 rw [aq]
 refine As (h.imp fun _ _ h => As (h.imp fun d s h => ?_))
 obtain ⟨c, h1, h⟩ := h
 simp only [h1]
 exact Bo h
theorem dk (h : Wr (Ad t call a env st) fun x s => ∃ u c, Cy s x = some u ∧ Dw t u ty = some c ∧ QB c s) : Wr (aq t call (.isi a ty) env st) QB := by
 rw [aq]
 refine As (h.imp fun x s h => ?_)
 obtain ⟨u, c, h1, h2, h3⟩ := h
 rw [h1, Option.bind_some, h2]; exact Bo h3
def Kt (t : Nat → Ty → Option Bool) (call : Or) (F : Nat) (r : Ss) (Q : Fl → Sto → Prop) (f : Fl) (s : Sto) : Prop := match f with
 | .next env' => Wr (aj t call F r env' s) Q
 | f => Q f s
theorem Ap (h : QF (.next env) st) : Wr (aj t call F .nil env st) QF := ⟨_, _, zm, h⟩
theorem Af (h : Wr (An t call F c env st) (Kt t call F r QF)) : Wr (aj t call F (.cons c r) env st) QF := by
 rw [mn]
 refine As (h.imp fun f s h => ?_)
 cases f <;> first | exact h | exact Bo h
theorem Ah (h : Wr (aj t call F r env st) QF) : Kt t call F r QF (.next env) st := h
theorem ba (h : Wr (Ad t call e env st) fun d s => i < env.length ∧ QF (.next (env.set i (some d))) s) : Wr (An t call F (.set i e) env st) QF := by
 rw [Zm]
 refine As (h.imp fun d s h => ?_)
 rw [if_pos h.1]; exact Bo h.2
theorem Cf (h : Wr (Ad t call e env st) fun d s => ∃ env', store is false d env = some env' ∧ QF (.next env') s) : Wr (An t call F (.unp is e) env st) QF := by
 rw [Zn]
 refine As (h.imp fun d s h => ?_)
 obtain ⟨env', h1, h⟩ := h
 simp only [h1]; exact Bo h
theorem Qx (h : Wr (Ad t call a env st) fun x s => Wr (Ad t call b env s) fun y s => (i < env.length ∧ j < env.length) ∧ QF (.next ((env.set i (some x)).set j (some y))) s) : Wr (An t call F (.par i j a b) env st) QF := by
 rw [zo]
 refine As (h.imp fun d s h => As (h.imp fun d s h => ?_))
 rw [if_pos h.1]; exact Bo h.2
theorem Ba (h : Wr (aq t call c env st) fun x s => (x = true → Wr (aj t call F a env s) QF) ∧ (x = false → Wr (aj t call F b env s) QF)) : Wr (An t call F (.ifS c a b) env st) QF := by
 rw [Mn]
 refine As (h.imp fun x s h => ?_)
 cases x with
 | true => exact h.1 rfl
 | false => exact h.2 rfl
theorem Ay (h : Wr (Ad t call e env st) fun d s => QF (.ret d) s) : Wr (An t call F (.ret e) env st) QF := by
 rw [Qu]; exact As (h.imp fun d s h => Bo h)
theorem ig (h : Wr (Ad t call e env st) fun d s => QF (.next env) s) : Wr (An t call F (.ex e) env st) QF := by
 rw [qv]; exact As (h.imp fun d s h => Bo h)
theorem aae {tg : List Nat} {one k : Bool} {it : E} {b : Ss} (h : Wr (Ad t call it env st) fun d s => ∃ xs p, gr k s d = some (xs, p) ∧ Wr (forLoop xs p (turn t call F tg one b) xs env s) QF) : Wr (An t call F (.forS tg one k it b) env st) QF := by
 rw [Zp]
 refine As (h.imp fun d s h => ?_)
 obtain ⟨xs, p, h1, h⟩ := h
 simp only [h1]; exact h
theorem ki {tg : List Nat} {es : Es} {b : Ss} (h : Wr (Au t call es env st) fun ds s => ∃ xs, Ef ds = some xs ∧ Wr (forLoop xs none (turn t call F tg true b) xs env s) QF) : Wr (An t call F (.forR tg es b) env st) QF := by
 rw [zq]
 refine As (h.imp fun d s h => ?_)
 obtain ⟨xs, h1, h⟩ := h
 simp only [h1]; exact h
theorem Jf {tg : List Nat} {one : Bool} {b : Ss} {d : D} {env' : DD.Env} (h : store tg one d env = some env') (w : Wr (aj t call F b env' st) QF) : Wr (turn t call F tg one b d env st) QF := by
 rw [zp h]; exact w
theorem jg {xs : List D} {p : Option Nat} {body : D → DD.Env → Sto → Res Fl} (J : Nat → DD.Env → Sto → Prop) (hs : ∀ i env st, J i env st → stays st p xs = true) (h0 : J 0 env st)
    (ht : ∀ (j : Nat) (d : D), xs[j]? = some d → ∀ env st, J j env st → Wr (body d env st) fun f s => ∃ env', f = .next env' ∧ J (j + 1) env' s)
    (q : ∀ env s, J xs.length env s → QF (.next env) s) : Wr (forLoop xs p body xs env st) QF := by
  obtain ⟨env', s, e, j⟩ := qw hs xs 0 env st h0 fun j d hd env st hj => by
    rw [Nat.zero_add] at hj
    obtain ⟨f, s, e, env', rfl, j⟩ := ht j d hd env st hj
    exact ⟨env', s, e, by rwa [Nat.zero_add]⟩
  rw [Nat.zero_add] at j
  exact ⟨_, _, e, q _ _ j⟩
def Kf (Q : D → Sto → Prop) (f : Fl) (s : Sto) : Prop := match f with
 | .next _ => Q .non s
 | .ret d => Q d s
 | _ => False
theorem Bn (env : DD.Env) (h : fns[f]? = some ⟨np, nl, b⟩) (hl : args.length = np) (hn : np ≤ nl) (he : args.map some ++ List.replicate (nl - np) none = env) (w : Wr (aj t (Bw t fns F n) F b env st) (Kf Q)) : Wr (Bw t fns F (n + 1) f args st) Q := by
  show Wr (match fns[f]? with
      | some fn => if args.length = fn.np ∧ fn.np ≤ fn.nl then fin (aj t (Bw t fns F n) F fn.body (args.map some ++ List.replicate (fn.nl - fn.np) none) st) else .bad
      | none => .bad) Q
  rw [h]; simp only; rw [if_pos ⟨hl, hn⟩, he]
  unfold fin
  refine As (w.imp fun f s h => ?_)
  cases f with
  | next e => exact Bo h
  | ret d => exact Bo h
  | brk e => exact h.elim
  | cont e => exact h.elim
theorem mq (h : B) : (((!true) = true → A) ∧ ((!true) = false → B)) := Bg h
theorem Jg (h : A) : (((!false) = true → A) ∧ ((!false) = false → B)) := bx h
end
section
variable {st : Sto} {Q : D → Sto → Prop} {i j : Int} {n m : Nat} {xs ys : List D} {kvs : List (D × D)} {d k : D}
theorem Em (h : Q (.int (i + j)) st) : Wr (opD .add (.int i) (.int j) st) Q := ⟨_, _, Zq, h⟩
theorem cg (h : Q (.int (i - j)) st) : Wr (opD .sub (.int i) (.int j) st) Q := ⟨_, _, zr, h⟩
theorem Ig (g : ib i) (h : Q (.int (i * j)) st) : Wr (opD .mul (.int i) (.int j) st) Q := ⟨_, _, Qw (.inl g), h⟩
theorem qy (g : ib j) (h : Q (.int (i * j)) st) : Wr (opD .mul (.int i) (.int j) st) Q := ⟨_, _, Qw (.inr (.inl g)), h⟩
theorem cn (g : Fw j) (h : Q (.int (i.fdiv j)) st) : Wr (opD .fdiv (.int i) (.int j) st) Q := ⟨_, _, Zr g, h⟩
theorem bj (g : j ≠ 0) (h : Q (.int (i.fmod j)) st) : Wr (opD .mod (.int i) (.int j) st) Q := ⟨_, _, Zs g, h⟩
theorem Mq (g : Iz i j) (h : Q (.int (i ^ j.toNat)) st) : Wr (opD .pow (.int i) (.int j) st) Q := ⟨_, _, zt g, h⟩
theorem jh (hn : st[n]? = some (.lst xs)) (hm : st[m]? = some (.lst ys)) (g : xs.length + ys.length ≤ sizeLine) (h : Q (.loc st.length) (st ++ [.lst (xs ++ ys)])) : Wr (opD .add (.loc n) (.loc m) st) Q := ⟨_, _, Zt hn hm g, h⟩
theorem Cn (h : Q (.bl (decide (i = j))) st) : Wr (cmD .eq (.int i) (.int j) st) Q := ⟨_, _, zu, h⟩
theorem gb (h : Q (.bl (!decide (i = j))) st) : Wr (cmD .ne (.int i) (.int j) st) Q := ⟨_, _, Zu, h⟩
theorem Gb (h : Q (.bl (decide (i < j))) st) : Wr (cmD .lt (.int i) (.int j) st) Q := ⟨_, _, Zv, h⟩
theorem aaf (h : Q (.bl (decide (j < i))) st) : Wr (cmD .gt (.int i) (.int j) st) Q := ⟨_, _, zw, h⟩
theorem Qy (h : Q (.bl (decide (j ≤ i))) st) : Wr (cmD .ge (.int i) (.int j) st) Q := ⟨_, _, Zw, h⟩
theorem Jh (h : Q (.bl (decide (d = .non))) st) : Wr (cmD .isN d .non st) Q := ⟨_, _, by simp only [cmD], h⟩
theorem aag (ha : okN 40 a = true) (hb : okN 40 b = true) (h : Q (.bl (decide (a = b))) st) : Wr (cmD .eq a b st) Q := ⟨_, _, aac ha hb, h⟩
theorem Gv (ha : okN 40 a = true) (hb : okN 40 b = true) (h : Q (.bl (!decide (a = b))) st) : Wr (cmD .ne a b st) Q := ⟨_, _, by simp only [cmD, eqV, Je ha (Nat.le_refl _), Je hb (Nat.le_refl _), qx ha hb], h⟩
theorem Cg (e : L2.atI xs i = some d) (h : Q d st) : Wr (ixD (.tup xs) (.int i) st) Q := ⟨_, _, Zy e, h⟩
theorem gc (g : Az st n = some xs) (e : L2.atI xs i = some d) (h : Q d st) : Wr (ixD (.loc n) (.int i) st) Q := ⟨_, _, zz g e, h⟩
theorem Ds (h : Q (.int xs.length) st) : Wr (btD .lenB [.tup xs] st) Q := ⟨_, _, Zx, h⟩
theorem aah (g : Az st n = some xs) (h : Q (.int xs.length) st) : Wr (btD .lenB [.loc n] st) Q := ⟨_, _, zy g, h⟩
theorem qz (h : Q (.int (if i < 0 then -i else i)) st) : Wr (btD .absB [.int i] st) Q := ⟨_, _, zx, h⟩
theorem aai (g : dq st d = some xs) (h : Q (.tup xs) st) : Wr (btD .tupleB [d] st) Q := ⟨_, _, by simp only [btD, g], h⟩
theorem aaj (g : st[n]? = some (.lst xs)) (hl : xs.length < sizeLine) (h : Q .non (st.set n (.lst (xs ++ [d])))) : Wr (mtD .append (.loc n) [d] st) Q := ⟨_, _, by simp only [mtD, g]; rw [if_pos hl], h⟩
theorem aak {k : Nat} {ds : List D} {lo hi : Option Int} (e : Jw k ds = some (lo, hi)) (g : Az st n = some xs) (h : Q (.loc st.length) (st ++ [.lst (cutD xs lo hi)])) : Wr (slD k (.loc n) ds st) Q := ⟨_, _, by simp only [slD, e, g], h⟩
theorem Ih {k : Nat} {ds : List D} {lo hi : Option Int} (e : Jw k ds = some (lo, hi)) (h : Q (.tup (cutD xs lo hi)) st) : Wr (slD k (.tup xs) ds st) Q := ⟨_, _, by simp only [slD, e], h⟩
theorem aal {m : Mt} (g : st[n]? = some (.lst xs)) (hm : rdy m st (.loc n) = ja st (.loc n) := by rfl) : rdy m st (.loc n) = true := by rw [hm]; simp only [ja, g]
theorem Ki (g : Az st n = some xs) : Cy st (.loc n) = some (.b "list") := by
 unfold Az at g
 simp only [Cy]
 cases z : st[n]? with
 | none => rw [z] at g; cases g
 | some c => rw [z] at g; cases c <;> first | rfl | cases g
end
section
variable {t : Nat → Ty → Option Bool} {call : Or} {F : Nat} {env : DD.Env} {st : Sto} {Q : D → Sto → Prop} {QF : Fl → Sto → Prop}
theorem Qz (J : Nat → DD.Env → Sto → Prop)
    (ht : ∀ m env st, J m env st → Wr (test env st) fun x s => (x = true → Wr (body env s) fun f s' => ∃ env' m', f = .next env' ∧ m' < m ∧ J m' env' s') ∧ (x = false → QF (.next env) s)) :
    ∀ (g m : Nat) (env : DD.Env) (st : Sto), m < g → J m env st → Wr (whileLoop test body g env st) QF
  | 0, m, env, st, h, _ => by omega
  | g + 1, m, env, st, h, j => by
    simp only [whileLoop]
    refine As ((ht m env st j).imp fun x s h2 => ?_)
    cases x with
    | false => exact Bo (h2.2 rfl)
    | true =>
      refine As ((h2.1 rfl).imp fun f s' h3 => ?_)
      obtain ⟨env', m', rfl, hm, j'⟩ := h3
      exact Qz J ht g m' env' s' (by omega) j'
theorem aam (J : Nat → DD.Env → Sto → Prop) (m : Nat) (hm : m < F) (h0 : J m env st)
    (ht : ∀ m env st, J m env st → Wr (aq t call c env st) fun x s => (x = true → Wr (aj t call F b env s) fun f s' => ∃ env' m', f = .next env' ∧ m' < m ∧ J m' env' s') ∧ (x = false → QF (.next env) s)) : Wr (An t call F (.whileS c b) env st) QF := by
  rw [Zo]
  exact Qz J ht F m env st hm h0
end
section
variable {st : Sto} {Q : D → Sto → Prop} {i j : Int} {n m : Nat} {xs ys : List D} {kvs : List (D × D)} {d k : D}
theorem ra {m : Mt} (g : st[n]? = some (.dct kvs)) (hm : rdy m st (.loc n) = (Cc st n).isSome := by rfl) : rdy m st (.loc n) = true := by rw [hm]; simp only [Cc, g, Option.isSome_some]
end
section
variable {t : Nat → Ty → Option Bool} {call : Or} {F : Nat} {env : DD.Env} {st : Sto} {Q : D → Sto → Prop} {QB : Bool → Sto → Prop} {QF : Fl → Sto → Prop}
theorem mr (h : Wr (Ad t call k env st) fun x s => ∃ z d, x = .str z ∧ rows.lookup z = some d ∧ Q d s) : Wr (Ad t call (.tabV rows k) env st) Q := by
 rw [Ad]
 refine As (h.imp fun x s h => ?_)
 obtain ⟨z, d, rfl, e, h⟩ := h
 simp only [e]; exact Bo h
theorem Ra (h : Wr (Ad t call k env st) fun x s => ∃ z i, x = .str z ∧ rows.lookup z = some i ∧ Q (.loc s.length) (s ++ [.fnc i])) : Wr (Ad t call (.tabF rows k) env st) Q := by
 rw [Ad]
 refine As (h.imp fun x s h => ?_)
 obtain ⟨z, d, rfl, e, h⟩ := h
 simp only [e]; exact Bo h
theorem Mr (h : Wr (Ad t call k env st) fun x s => ∃ z, x = .str z ∧ QB (xor neg (decide (z ∈ rows))) s) : Wr (aq t call (.tabIn neg rows k) env st) QB := by
 rw [aq]
 refine As (h.imp fun x s h => ?_)
 obtain ⟨z, rfl, h⟩ := h
 exact Bo h
theorem aan (h : Wr (Ad t call k env st) fun x s => x = .non ∧ QB neg s) : Wr (aq t call (.tabIn neg rows k) env st) QB := by
 rw [aq]
 refine As (h.imp fun x s h => ?_)
 obtain ⟨rfl, h⟩ := h
 exact Bo h
theorem aao (h : Wr (Ad t call f env st) fun x s => ∃ n i, x = .loc n ∧ s[n]? = some (.fnc i) ∧ is.contains i = true ∧ Wr (Au t call es env s) fun ds s => Wr (call i ds s) Q) : Wr (Ad t call (.callV is f es) env st) Q := by
 rw [Ad]
 refine As (h.imp fun x s h => ?_)
 obtain ⟨n, i, rfl, e, hi, h⟩ := h
 simp only [e, hi, if_true]
 exact As h
def gw (t : Nat → Ty → Option Bool) (call : Or) (F : Nat) (t1 : List Nat) (o1 : Bool) (t2 : List Nat) (o2 : Bool) (b : Ss) (d : D) (env : DD.Env) (st : Sto) : Res Fl := match Gq t1 o1 t2 o2 d env with | some env' => aj t call F b env' st | none => .bad
theorem aap (h : Wr (Au t call (.cons a (.cons c .nil)) env st) fun ds s => ∃ xs ys, ds = [.tup xs, .tup ys] ∧ xs.length ≤ ys.length ∧ Wr (By (fun _ => true) (gw t call F t1 o1 t2 o2 b) (fe xs ys) env s) QF) : Wr (An t call F (.forZT t1 o1 t2 o2 a c b) env st) QF := by
 rw [An]
 refine As (h.imp fun ds s h => ?_)
 obtain ⟨xs, ys, rfl, hl, h⟩ := h
 simp only [hl, if_true]; exact h
theorem rb (h : Gq t1 o1 t2 o2 d env = some env') (w : Wr (aj t call F b env' st) QF) : Wr (gw t call F t1 o1 t2 o2 b d env st) QF := by
 unfold gw; rw [h]; exact w
theorem w_walk (J : Nat → DD.Env → Sto → Prop) (hs : ∀ i env st, J i env st → ok st = true) :
    ∀ (xs : List D) (k : Nat) (env : DD.Env) (st : Sto), J k env st → (∀ (j : Nat) (d : D), xs[j]? = some d → ∀ env st, J (k + j) env st → Wr (body d env st) fun f s => ∃ env', f = .next env' ∧ J (k + j + 1) env' s) → (∀ env s, J (k + xs.length) env s → QF (.next env) s) → Wr (By ok body xs env st) QF
  | [], k, env, st, h0, _, q => by
    simp only [By, hs k env st h0, if_true]
    exact Bo (q env st h0)
  | d :: r, k, env, st, h0, ht, q => by
    simp only [By, hs k env st h0, if_true]
    refine As ((ht 0 d rfl env st h0).imp fun f s h => ?_)
    obtain ⟨env', rfl, j⟩ := h
    refine w_walk J hs r (k + 1) env' s j (fun j' d' hd env2 st2 hj => ?_) fun env2 s2 hj => q env2 s2 (by rw [List.length_cons, show k + (r.length + 1) = k + 1 + r.length by omega]; exact hj)
    have := ht (j' + 1) d' (by simpa using hd) env2 st2 (by rw [show k + (j' + 1) = k + 1 + j' by omega]; exact hj)
    rwa [show k + (j' + 1) + 1 = k + 1 + j' + 1 by omega] at this
end
end DD
namespace DD
open PySem PySem.Spec L2
open PyProof.Rows hiding St RelV
variable {g : G} {X : Cx} {a b c : Expr} {a' b' c' : E} {pos apos cpos : Pos} {rest es : List Expr} {es' : Es} {F : Nat}
theorem aaq {p : Pos} 
    (F : FnOk X.prog X.w X.K X.mg X.base (CXd X.prog X.w) k fa fd ps (spD g.K g.cls np (g.call f))) (hr : Room k X.A) (hg : Gl X x) (hm : X.mg x = some (.ref fa)) (hk : PySem.W.keepIn X.K (.ref fa) = true) (hb : Binds X.K fd ps ds) (hd : Vals dvs ds)
    (hdv : ∀ rho H, g.RepL rho H dv dvs) (hx : Passes (CXd X.prog X.w) X g.xk) (hl : ∀ ds st, ds.length ≠ np → g.call f ds st = .bad) (hdb : (x == ("__debug__" : Str)) = false := by decide) : Sd g X (.Call (.Name x p) [] [] pos) (.call f .nil dv) :=
  bb (we F hr hg hm hk hb hd hx hdb) fun sg H Q q => by
    obtain ⟨rho, st, env, s, n, q⟩ := q
    simp only [Ad, Au, bo, List.nil_append] at q
    have rr := hdv rho H
    have hlen : dv.length = np := Decidable.byContradiction fun z => by rw [hl _ _ z] at q; exact q
    refine ⟨by rw [← hlen]; exact rr.length.symm, rho, st, dv, s, rr, ?_⟩
    revert q
    cases g.call f dv st with
    | ok d st' => exact fun q1 v H' rho' k s' r => (show ar g rho H Q d st' from q1) v H' rho' k s' r
    | exc c st' => exact fun q1 H' rho' k s' => q1 H' rho' k s'
    | bad => exact fun q1 => q1
theorem Rb {t' : Nat} {fp : List Addr} {pins : List (Addr × Obj)} {sg : L2.St} {H : Hp} {s : Shared} {h' : Heap} (I : Inv X pins sg H s) (hf : ∀ b ∈ fp, cy X pins H b) (k : ∀ b o, b ∉ fp → s.heap.get? b = some o → h'.get? b = some o) : Inv X pins sg H { s with heap := h', toks := t' } := by
 have nit : ∀ b u, H b = some u → b ∉ fp := fun b u e z => by rw [(hf b z).1] at e; cases e
 refine I.step (g' := s.gens) (d' := s.drawn) (ch := fp) (fun b hb => ⟨(hf b hb).2.2.2.1, (hf b hb).2.1, (hf b hb).2.2.2.2.1, (hf b hb).2.2.2.2.2⟩) (fun b o _ _ hc e _ => k b o hc e) (fun b o _ _ hc e _ => ⟨o.slots, k b o hc e⟩) (fun _ _ _ _ n => n)
  (fun b o hc e => ⟨o, k b o hc e⟩) (fun _ _ e => e) (fun _ _ _ e => e) (fun b ps e => ⟨#[], by rw [e]; simp⟩) (fun m hm => ?_) (fun b u e => ?_) I.bare
 · obtain ⟨o, es, ep, ho, r⟩ := hm
   exact ⟨o, es, ep, k _ o (fun z => (hf _ z).2.1 rfl) ho, r⟩
 · refine (I.hok b u e).stay (fun c v hc q => k c v ?_ q) (fun _ q => q) fun _ _ q => q
   rcases hc with z | z
   · rw [z]; exact nit b u e
   · exact nit c _ z
section
variable {g : G} {X : Cx} {pos : Pos}
end
section
variable {g : G} {X : Cx} {pos : Pos} {es : List Expr} {es' : Es}
end
end DD
namespace DD
open PySem PySem.Spec L2
section
variable {prog : Program} {w : World} {A : Around} {E : Value → Shared → Prop} {s : Shared}
end
open PyProof.Rows hiding St RelV
variable {g : G} {X : Cx} {pos apos cpos : Pos} {F : Nat}
section
variable {prog : Program} {w : World} {A : Around} {E : Value → Shared → Prop}
end
end DD
namespace DD
open PySem PySem.Spec L2
open PyProof.Rows hiding St RelV
variable {g : G} {X : Cx} {pos apos cpos : Pos} {F : Nat}
variable {g : G} {X : Cx} {pos apos cpos : Pos} {F : Nat}
variable {g : G} {X : Cx} {pos apos cpos : Pos} {F : Nat}
section
variable {K : PySem.W.Frag} {cls : CW} {r : List Addr} {H H2 : Hp}
end
theorem aar {J : It} {ws : List D} {ok : Sto → Bool} {T : TG} {sf : D → Env → Option Env} {x' : Ss} {r1 : List Addr} {H1 : Hp} {D : Ends} {sg : L2.St} {st1 : Sto} {env : Env}
    (hJ : ∀ rho st H, g.Keep r1 H1 rho H → g.Sto rho st H → ok st = true → J.stop ws.length H ∧ ∀ (i : Nat) (d : DD.D), ws[i]? = some d → J.go i H ∧ ∀ x H', J.yld i H x H' → bg H H' ∧ g.Rep rho H' d x)
    (hT : ∀ (rho : List Addr) (H : Hp) (Q : L2.St → Hp → Prop) (d : DD.D) (v : V) (env env' : Env) (sg : L2.St), sf d env = some env' → g.Rep rho H d v → g.Env rho H env sg → (∀ sg', g.Env rho H env' sg' → Q sg' H) → T v sg H Q)
    (s1 : g.Sto r1 st1 H1) (n1 : g.Env r1 H1 env sg) (q1 : RQ g (By ok (fun d env st => match sf d env with | some env' => aj g.tab g.call F x' env' st | none => .bad) ws env st1) (Bd g r1 H1 D) r1 H1) :
    ∃ W : Nat → Nat → L2.St → Hp → Prop, (∃ m, W 0 m sg H1) ∧ ∀ i m sg H, W i m sg H →
      (J.stop i H ∧ D.nx sg H) ∨ (J.go i H ∧ ∃ N : L2.St → Hp → Prop, (∀ sg' H', N sg' H' → ∃ m', m' < m ∧ W (i + 1) m' sg' H') ∧ ∀ x H', J.yld i H x H' → T x sg H' fun sg2 H2 => tSs g F x' { D with nx := N, ct := N, bk := D.nx } sg2 H2) := by
  refine ⟨fun i m sg H => m = ws.length - i ∧ i ≤ ws.length ∧ ∃ rho st env, g.Keep r1 H1 rho H ∧ g.Sto rho st H ∧ g.Env rho H env sg ∧ RQ g (By ok (fun d env st => match sf d env with | some env' => aj g.tab g.call F x' env' st | none => .bad) (ws.drop i) env st) (Bd g rho H D) rho H, ⟨ws.length, by simp, Nat.zero_le _, r1, st1, env, .refl _ _, s1, n1, q1⟩, ?_⟩
  rintro i m sg H ⟨rfl, hi, rho, st, env, kk, s, n, q⟩
  have hst : ok st = true := by
    cases z : ok st with
    | true => rfl
    | false =>
      exfalso
      cases e : ws.drop i with
      | nil => rw [e] at q; simp only [By, z] at q; exact q
      | cons d t => rw [e] at q; simp only [By, z] at q; exact q
  obtain ⟨h1, h2⟩ := hJ rho st H kk s hst
  by_cases hlt : i < ws.length
  · rw [List.drop_eq_getElem_cons hlt] at q
    simp only [By, hst, if_true] at q
    obtain ⟨hgo, hy⟩ := h2 i ws[i] (List.getElem?_eq_getElem hlt)
    refine .inr ⟨hgo, fun sg H => i + 1 ≤ ws.length ∧ ∃ rho st env, g.Keep r1 H1 rho H ∧ g.Sto rho st H ∧ g.Env rho H env sg ∧ RQ g (By ok (fun d env st => match sf d env with | some env' => aj g.tab g.call F x' env' st | none => .bad) (ws.drop (i + 1)) env st) (Bd g rho H D) rho H, fun sg' H' h => ⟨ws.length - (i + 1), by omega, rfl, h.1, h.2⟩, fun x H' y => ?_⟩
    obtain ⟨eS, rx⟩ := hy x H' y
    have k0 : g.Keep rho H rho H' := bg.keep eS rho
    have q := RQ.mono k0 q fun f st p => Bd.mono k0 p
    have kk := kk.trans k0
    have s := s.same eS
    have n := n.mono k0
    cases es : sf ws[i] env with
    | none => rw [es] at q; exact q.elim
    | some env1 =>
      rw [es] at q
      refine hT rho H' _ _ x env env1 sg es rx n fun sg1 n1 => ?_
      refine ⟨rho, st, env1, s, n1, ?_⟩
      revert q
      simp only
      cases aj g.tab g.call F x' env1 st with
      | bad => exact fun q => q
      | exc c st2 => exact fun q => q
      | ok f st2 =>
        simp only [bo]
        cases f with
        | next env2 => exact fun q sg2 H2 r2 k2 s2 n2 => ⟨hlt, r2, st2, env2, kk.trans k2, s2, n2, RQ.mono k2 q fun f st p => Bd.mono k2 p⟩
        | cont env2 => exact fun q sg2 H2 r2 k2 s2 n2 => ⟨hlt, r2, st2, env2, kk.trans k2, s2, n2, RQ.mono k2 q fun f st p => Bd.mono k2 p⟩
        | brk env2 => exact fun q => q
        | ret d => exact fun q => q
  · have e : i = ws.length := by omega
    subst e
    refine .inl ⟨h1, ?_⟩
    rw [List.drop_eq_nil_of_le (Nat.le_refl _)] at q
    simp only [By, hst, if_true] at q
    exact (show Bd g rho H D (.next env) st from q) sg H rho (.refl _ _) s n
variable {g : G} {X : Cx} {pos apos cpos : Pos} {F : Nat}
theorem aas : bootBuiltins "zip" = some (.type "zip") := by decide +kernel
def tgZ (K : PySem.W.Frag) (t1 : List Nat) (o1 : Bool) (t2 : List Nat) (o2 : Bool) : TG := ll K 2 (Jp (tg K t1 o1) (Jp (tg K t2 o2) Lk))
theorem aat (e : Gq t1 o1 t2 o2 d env = some env') (r : g.Rep rho H d v) (n : g.Env rho H env sg) (h : ∀ sg', g.Env rho H env' sg' → Q sg' H) : tgZ g.K t1 o1 t2 o2 v sg H Q := by
 unfold Gq at e
 split at e
 · rename_i x y
   obtain ⟨p, vs, rfl, sq, rl⟩ := bz.mp r
   simp only [G.RepL, RepL] at rl
   obtain ⟨v1, w1, rfl, r1, v2, w2, rfl, r2, rfl⟩ := rl
   cases e1 : store t1 o1 x env with
   | none => rw [e1] at e; cases e
   | some env1 =>
    rw [e1, Option.bind_some] at e
    exact ⟨p, _, rfl, sq, rfl, v1, _, rfl, Ic e1 r1 n fun sg1 n1 => ⟨v2, _, rfl, Ic e r2 n1 fun sg2 n2 => ⟨rfl, h sg2 n2⟩⟩⟩
 · cases e
theorem aau (h : xs.length ≤ ys.length) : (fe xs ys).length = xs.length := by simp [fe]; omega
end DD
namespace DD
open PySem PySem.Spec L2
open PyProof.Rows hiding St RelV
open PyProof.Rows.KTD (kt_dictFind_strs)
variable {g : G} {X : Cx} {pos apos cpos p p2 : Pos} {F : Nat} {a b : Expr} {a' b' : E}
def TabAt (K : PySem.W.Frag) (mg : Str → Option Value) (x : Str) (rows : List (Str × V)) : Prop := ∃ (a : Addr) (o : Obj) (es : Array DictEntry) (ep : Nat), mg x = some (.ref a) ∧ K.lookup a = some o ∧ o.ExactDict ∧ o.data = .dict es ep ∧ (a == sysModules) = false ∧ PyProof.Rows.KTD.Rows RelV es.toList rows
theorem Rc (h : PyProof.Rows.KTD.Rows RelV es rows) : (es.all fun e => isExactStrKey e.key) = true := by
 induction h with
 | nil => rfl
 | cons hk _ _ ih => rw [List.all_cons, ih, hk]; rfl
theorem aav (h : PyProof.Rows.KTD.Rows RelV es rows) : (es.findIdx? fun e => e.key.isStr z).isSome = decide (z ∈ rows.map (·.1)) ∧ ∀ i, (es.findIdx? fun e => e.key.isStr z) = some i → ∃ e v, es[i]? = some e ∧ rows.lookup z = some v ∧ RelV v e.val := by
 induction h with
 | nil => exact ⟨by simp, fun i e => by simp at e⟩
 | @cons e x t d es rows hk hv hr ih =>
  have hs : e.key.isStr z = decide (z = x) := by
   rw [hk]
   simp only [Value.isStr]
   by_cases q : z = x
   · subst q; simp
   · rw [decide_eq_false q]
     simpa using fun w => q w.symm
  rw [List.findIdx?_cons, hs]
  by_cases q : z = x
  · subst q
    refine ⟨by simp, fun i h => ?_⟩
    simp at h
    subst h
    exact ⟨e, d, by simp, by simp [List.lookup], hv⟩
  · rw [decide_eq_false q]
    refine ⟨by simp [q, ih.1], fun i h => ?_⟩
    simp only [Bool.false_eq_true, if_false, Option.map_eq_some_iff] at h
    obtain ⟨j, h1, rfl⟩ := h
    obtain ⟨e2, v, g1, g2, g3⟩ := ih.2 j h1
    have hb : (z == x) = false := by simpa using q
    exact ⟨e2, v, by simpa using g1, by rw [List.lookup_cons, hb]; exact g2, g3⟩
section
variable {s : Shared} {E : Value → Shared → Prop} {A : Around}
theorem rf (ho : s.heap.get? q = some o) (hd : o.data = .dict es ep) (hr : PyProof.Rows.KTD.Rows RelV es.toList rows)
    (h1 : ∀ v u, rows.lookup z = some v → z ∈ rows.map (·.1) → RelV v u → Q (some u) { s with toks := s.toks + 1 }) (h2 : z ∉ rows.map (·.1) → Q none { s with toks := s.toks + 1 }) : wpAny (model X.prog X.w) A (dictGet q (.str z t)) Q E s := by
  unfold dictGet
  try with_reducible refine wpAny_holding ?_
  have hidx : (es.findIdx? fun e => e.key.isStr z) = es.toList.findIdx? fun e => e.key.isStr z := by obtain ⟨l⟩ := es; simp
  refine wpAny_bind (wpAny_pyHash_str (wpAny_bind (kt_dictFind_strs (s := { s with toks := s.toks + 1 }) ho hd (by obtain ⟨l⟩ := es; simpa using Rc hr) ?_)))
  rw [hidx]
  obtain ⟨f1, f2⟩ := aav (z := z) hr
  cases hi : es.toList.findIdx? (fun e => e.key.isStr z) with
  | none =>
    rw [hi] at f1
    exact wpAny_pure (h2 (of_decide_eq_false f1.symm))
  | some i =>
    rw [hi] at f1
    obtain ⟨e, v, g1, g2, g3⟩ := f2 i hi
    refine wpAny_bind (wpAny_dictEntries (s := { s with toks := s.toks + 1 }) ho hd (wpAny_pure ?_))
    have : es[i]? = some e := by obtain ⟨l⟩ := es; simpa using g1
    rw [this]
    exact h1 v _ g2 (odt f1.symm) g3
theorem aaw (ho : s.heap.get? q = some o) (hd : o.data = .dict es ep) (hall : (es.all fun e => isExactStrKey e.key) = true) (hq : Q none s) : wpAny (model prog w) A (dictFind q .none h) Q E s := by
 have key : ∀ e ∈ es.toList, ∃ z t, e.key = Value.str z t := by
  intro e he
  have := Array.all_eq_true_iff_forall_mem.mp hall e (by simpa using he)
  cases hk : e.key <;> rw [hk] at this <;> first | exact ⟨_, _, rfl⟩ | (simp [isExactStrKey] at this)
 have hc : ((Value.none :: (placesWithHash es.size (fun i => es[i]?.map (·.hash)) h).filterMap fun i => es[i]?.map (·.key)).all carriedByValue) = true := by
  rw [List.all_cons, List.all_eq_true.mpr, Bool.and_true]
  · rfl
  · intro v hv
    obtain ⟨i, _, hi⟩ := List.mem_filterMap.mp hv
    cases he : es[i]? with
    | none => rw [he] at hi; cases hi
    | some e =>
     rw [he] at hi
     obtain rfl : e.key = v := by simpa using hi
     obtain ⟨z, t, hz⟩ := key e (by simpa using Array.mem_of_getElem? he)
     rw [hz]; rfl
 unfold dictFind
 try with_reducible refine wpAny_holding ?_
 refine wpAny_bind (wpAny_dictEntries ho hd ?_)
 dsimp only
 rw [if_pos hc]
 unfold dictWalkPlain
 refine wpAny_bind ?_
 refine wpAny_forIn_list _ (fun rest b s' => s' = s ∧ b = (none, ())) _ ?_ ?_ _ _ ⟨rfl, rfl⟩
 · rintro x rest b s' ⟨rfl, rfl⟩
   dsimp only
   split
   · rename_i e he
     obtain ⟨z, t, hz⟩ := key e (by simpa using Array.mem_of_getElem? he)
     split
     · rw [hz]
       refine wpAny_bind (wpAny_dictEpoch ho hd (wpAny_bind (SeqAt.EqAt.str_none z t prog w E _ (wpAny_bind (wpAny_dictEpoch ho hd ?_)))))
       show wpAny _ _ (if (ep != ep) = true then _ else _) _ E _
       rw [if_neg (by simp)]
       exact wpAny_bind (wpAny_rule (wpAny_pure ⟨rfl, rfl⟩))
     · exact wpAny_pure ⟨rfl, rfl⟩
   · exact wpAny_pure ⟨rfl, rfl⟩
 · rintro b s' ⟨rfl, rfl⟩
   exact wpAny_pure hq
theorem aax (ho : s.heap.get? q = some o) (hd : o.data = .dict es ep) (hr : PyProof.Rows.KTD.Rows RelV es.toList rows) (hq : Q none { s with toks := s.toks + 1 }) : wpAny (model X.prog X.w) A (dictGet q .none) Q E s := by
 unfold dictGet
 try with_reducible refine wpAny_holding ?_
 refine wpAny_bind ?_
 refine PySem.W.pyHash_slot (T := "NoneType") rfl F.slot_NoneType_hash F.entry_NoneType_hash (F.args_NoneType_hash_1 _) (beq_builtin_none _) (.inl rfl) (wpAny_bind (wpAny_pure (wpAny_bind (wpAny_mkInt (wpAny_pure ⟨_, _, rfl, ?_⟩)))))
 exact wpAny_bind (aaw (s := { s with toks := s.toks + 1 }) ho hd (by obtain ⟨l⟩ := es; simpa using Rc hr) (wpAny_pure hq))
end
def aay (q : Addr) (rows : List (Str × V)) : R2 := fun x y H Q => ∃ z v, x = .ref q ∧ y = .str z ∧ rows.lookup z = some v ∧ Q v H
theorem Rf (hl : X.K.lookup q = some o) (hx : o.ExactDict) (hd : o.data = .dict es ep) (hr : PyProof.Rows.KTD.Rows RelV es.toList rows) : IxR X (aay q rows) := by
 intro value slice pins s sg H x y v u Q I rx ry h hs
 obtain ⟨z, w, rfl, rfl, hw, hq⟩ := h
 obtain rfl : v = Value.ref q := rx
 obtain ⟨t, rfl⟩ := (show ∃ t, u = Value.str z t from ry)
 have ho : s.heap.get? q = some o := I.kIn q o hl
 have hT : s.TypeIs (.ref q) "dict" := ⟨o, ho, hx.1⟩
 refine PyProof.Rows.tail_any hT PySem.F.slot_dict_getitem.lookup ?_ hs
 unfold getItem
 try with_reducible refine wpAny_holding ?_
 refine wpAny_bind (wpAny_sequenceKey hT (by decide) ?_)
 refine wpAny_bind (wpAny_callSpecial?_slot (name := Str.ofString "__getitem__") hT PySem.F.slot_dict_getitem (wpAny_call_entry PySem.F.slot_dict_getitem hT PySem.F.entry_dict_getitem ?_ (PySem.args_dict_getitem _ _)))
 show wpAny _ _ (dictGet q (.str z t) >>= _) _ _ s
 refine wpAny_bind (rf (X := X) ho hd hr (fun w2 u hw2 _ r => wpAny_pure ⟨u, rfl, wpAny_pure ?_⟩) fun hn => ?_)
 · rw [hw] at hw2; cases hw2
   exact ⟨w, H, I.tok _, r, hq⟩
 · exfalso
   refine hn ?_
   clear hr hn
   induction rows with
   | nil => simp at hw
   | cons r t ih =>
    rw [List.lookup_cons] at hw
    by_cases e : z = r.1
    · simp [e]
    · have hb : (z == r.1) = false := by simpa using e
      rw [hb] at hw
      simp only [List.map_cons, List.mem_cons]
      exact .inr (ih hw)
def rg (neg : Bool) (q : Addr) (ks : List Str) : R2 := fun x y H Q => y = .ref q ∧ ((∃ z, x = .str z ∧ Q (.bl (xor neg (decide (z ∈ ks)))) H) ∨ (x = .non ∧ Q (.bl neg) H))
theorem aaz (neg : Bool) (hl : X.K.lookup q = some o) (hx : o.ExactDict) (hd : o.data = .dict es ep) (hm : (q == sysModules) = false) (hr : PyProof.Rows.KTD.Rows RelV es.toList rows) : OpR X (compareOp (if neg then .NotIn else .In)) (rg neg q (rows.map (·.1))) := by
 intro pins s sg H x y v u Q I rx ry h
 obtain ⟨rfl, h⟩ := h
 obtain rfl : u = Value.ref q := ry
 have ho : s.heap.get? q = some o := I.kIn q o hl
 have hT : s.TypeIs (.ref q) "dict" := ⟨o, ho, hx.1⟩
 have fin : ∀ {c : Value} {b : Bool}, (∀ {Q2 : Bool → Shared → Prop}, Q2 b { s with toks := s.toks + 1 } → wpAny (model X.prog X.w) X.A (contains (.ref q) c) Q2 X.xe s) → Q (.bl (xor neg b)) H → wpAny (model X.prog X.w) X.A (compareOp (if neg then .NotIn else .In) c (.ref q)) (EP X pins sg Q) X.xe s := by
  intro c b key hq
  cases neg with
  | false =>
   show wpAny _ _ (do return Value.bool (← contains (.ref q) c)) _ _ s
   exact wpAny_bind (key (wpAny_pure ⟨.bl _, H, I.tok _, rfl, by simpa using hq⟩))
  | true =>
   show wpAny _ _ (do return Value.bool (!(← contains (.ref q) c))) _ _ s
   exact wpAny_bind (key (wpAny_pure ⟨.bl _, H, I.tok _, rfl, by simpa using hq⟩))
 rcases h with ⟨z, rfl, hq⟩ | ⟨rfl, hq⟩
 · obtain ⟨t, rfl⟩ := (show ∃ t, v = Value.str z t from rx)
   refine fin (b := decide (z ∈ rows.map (·.1))) ?_ hq
   intro Q2 hq2
   unfold contains
   try with_reducible refine wpAny_holding ?_
   refine wpAny_bind (wpAny_specialOf hT PySem.F.slot_dict_contains.lookup ?_)
   show wpAny _ _ (if (some (Value.builtin "dict.__contains__") == some Value.none) = true then _ else _) _ _ s
   rw [if_neg (by rw [beq_builtin_none]; exact Bool.false_ne_true)]
   refine wpAny_bind (wpAny_callSpecialUnlessNone?_slot (name := Str.ofString "__contains__") hT PySem.F.slot_dict_contains (wpAny_call_entry PySem.F.slot_dict_contains hT PySem.F.entry_dict_contains ?_ (PySem.args_dict_contains _ _)))
   show wpAny _ _ (dictGet q (.str z t) >>= _) _ _ s
   refine wpAny_bind (rf (X := X) ho hd hr (fun w2 u _ hz r => ?_) fun hn => ?_)
   · rw [decide_eq_true hz] at hq2
     show wpAny _ _ (ret (.bool true)) _ _ _
     exact wpAny_pure ⟨_, rfl, wpAny_truthy_bool hq2⟩
   · rw [decide_eq_false hn] at hq2
     show wpAny _ _ (Builtin.Dict.pendingKey? q (.str z t) >>= _) _ _ _
     exact wpAny_bind (wpAny_pendingKey_other hm (wpAny_pure ⟨_, rfl, wpAny_truthy_bool hq2⟩))
 · obtain rfl : v = Value.none := rx
   refine fin (b := false) ?_ (by simpa using hq)
   intro Q2 hq2
   unfold contains
   try with_reducible refine wpAny_holding ?_
   refine wpAny_bind (wpAny_specialOf hT PySem.F.slot_dict_contains.lookup ?_)
   show wpAny _ _ (if (some (Value.builtin "dict.__contains__") == some Value.none) = true then _ else _) _ _ s
   rw [if_neg (by rw [beq_builtin_none]; exact Bool.false_ne_true)]
   refine wpAny_bind (wpAny_callSpecialUnlessNone?_slot (name := Str.ofString "__contains__") hT PySem.F.slot_dict_contains (wpAny_call_entry PySem.F.slot_dict_contains hT PySem.F.entry_dict_contains ?_ (PySem.args_dict_contains _ _)))
   show wpAny _ _ (dictGet q .none >>= _) _ _ s
   refine wpAny_bind (aax (X := X) ho hd hr ?_)
   show wpAny _ _ (Builtin.Dict.pendingKey? q .none >>= _) _ _ _
   exact wpAny_bind (wpAny_pendingKey_other hm (wpAny_pure ⟨_, rfl, wpAny_truthy_bool hq2⟩))
end DD
namespace DD
open PySem PySem.Spec L2
open PyProof.Rows hiding St RelV
variable {g : G} {X : Cx} {pos apos cpos p p2 : Pos} {F : Nat} {a b : Expr} {a' b' : E} {es : List Expr} {es' : Es}
theorem Ms {α β : Type} (f : α → β) (z : Str) : ∀ rows : List (Str × α), (rows.map fun p => (p.1, f p.2)).lookup z = (rows.lookup z).map f
 | [] => rfl
 | r :: t => by
  rw [List.map_cons, List.lookup_cons, List.lookup_cons]
  cases h : z == r.1 with
  | true => rfl
  | false => exact Ms f z t
theorem aba (h : lx d = true) : g.Rep rho H d (toV d) := by
 cases d <;> first | exact dh.mpr rfl | exact bh.mpr rfl | exact aw.mpr rfl | exact bu.mpr rfl | cases h
theorem lookup_mem {α : Type} {z : Str} {d : α} : ∀ {rows : List (Str × α)}, rows.lookup z = some d → ∃ r ∈ rows, r.2 = d
 | [], h => by simp at h
 | r :: t, h => by
  rw [List.lookup_cons] at h
  cases e : z == r.1 with
  | true => rw [e] at h; cases h; exact ⟨r, by simp, rfl⟩
  | false =>
   rw [e] at h
   obtain ⟨q, hq, hd⟩ := lookup_mem h
   exact ⟨q, List.mem_cons_of_mem _ hq, hd⟩
theorem abb {x : Str} {rows : List (Str × D)} (hg : Gl X x) (h : TabAt X.K X.mg x (rows.map fun p => (p.1, toV p.2))) (hf : (rows.all fun p => lx p.2) = true) (hb : Sd g X b b') (hs : Jt b) (hd : (x == ("__debug__" : Str)) = false := by decide) : Sd g X (.Subscript (.Name x p) b pos) (.tabV rows b') := by
 obtain ⟨q, o, es, ep, h1, h2, h3, h4, h5, h6⟩ := h
 refine bb (Ls (Rf h2 h3 h4 h6) (iz (v := .ref q) hg h1 rfl hd) hb hs) fun sg H Q q => ?_
 obtain ⟨rho, st, env, s, n, q⟩ := q
 simp only [Ad] at q
 refine step s n q fun d st1 v H1 r1 k1 s1 n1 rp q1 => ?_
 cases d with
 | str z =>
  dsimp only at q1
  split at q1
  · rename_i d e
    obtain ⟨r, hr, rfl⟩ := lookup_mem e
    have hfl : lx r.2 = true := List.all_eq_true.mp hf r hr
    exact ⟨z, toV r.2, rfl, bu.mp rp, by rw [Ms, e]; rfl, (show ar g rho H Q r.2 st1 from q1) _ H1 r1 k1 s1 (aba hfl)⟩
  · exact q1.elim
 | _ => exact q1.elim
theorem abc (hg : Gl X x) (h : TabAt X.K X.mg x (rows.map fun p => (p.1, .ref (g.cls.fn p.2)))) (hb : Sd g X b b') (hs : Jt b) (hd : (x == ("__debug__" : Str)) = false := by decide) : Sd g X (.Subscript (.Name x p) b pos) (.tabF rows b') := by
 obtain ⟨q, o, es, ep, h1, h2, h3, h4, h5, h6⟩ := h
 refine bb (Ls (Rf h2 h3 h4 h6) (iz (v := .ref q) hg h1 rfl hd) hb hs) fun sg H Q q => ?_
 obtain ⟨rho, st, env, s, n, q⟩ := q
 simp only [Ad] at q
 refine step s n q fun d st1 v H1 r1 k1 s1 n1 rp q1 => ?_
 cases d with
 | str z =>
  dsimp only at q1
  split at q1
  · rename_i i e
    obtain ⟨k2, s2⟩ := s1.alias (p := g.cls.fn i) (c := .fnc i) rfl rfl
    exact ⟨z, .ref (g.cls.fn i), rfl, bu.mp rp, by rw [Ms (fun j => V.ref (g.cls.fn j)), e]; rfl, (show ar g rho H Q (.loc st1.length) _ from q1) _ H1 _ (k1.trans k2) s2 (Bl.mpr ⟨_, by rw [← s1.len]; simp, rfl⟩)⟩
  · exact q1.elim
 | _ => exact q1.elim
theorem abd (h : tE g (.tabIn neg ks a') sg H Q) : tOp (rg neg q ks) (tE g a') (tC (.ref q)) sg H Q := by
 obtain ⟨rho, st, env, s, n, h⟩ := h
 simp only [Ad] at h
 refine step s n h fun d st1 v H1 r1 k1 s1 n1 rp q1 => ?_
 cases d with
 | str z => exact ⟨rfl, .inl ⟨z, bu.mp rp, (show ar g rho H Q (.bl _) st1 from q1) _ H1 r1 k1 s1 (bh.mpr rfl)⟩⟩
 | non => exact ⟨rfl, .inr ⟨dh.mp rp, (show ar g rho H Q (.bl _) st1 from q1) _ H1 r1 k1 s1 (bh.mpr rfl)⟩⟩
 | _ => exact q1.elim
theorem abe (q : tT g (.tabIn neg ks a') sg H Q) : tE g (.tabIn neg ks a') sg H (fun x H' => ∃ z, x = .bl z ∧ Q z H') := by
 obtain ⟨rho, st, env, s, n, q⟩ := q
 refine ⟨rho, st, env, s, n, ?_⟩
 simp only [aq] at q
 simp only [Ad]
 revert q
 cases Ad g.tab g.call a' env st with
 | bad => exact fun q => q
 | exc c st1 => exact fun q => q
 | ok x st1 =>
  simp only [bo]
  cases x with
  | str z => exact fun q v H' rho' k1 s1 r1 => ⟨_, bh.mp r1, (show da g rho H Q _ st1 from q) H' rho' k1 s1⟩
  | non => exact fun q v H' rho' k1 s1 r1 => ⟨_, bh.mp r1, (show da g rho H Q _ st1 from q) H' rho' k1 s1⟩
  | _ => exact fun q => q
theorem abf (neg : Bool) (hks : rows.map (·.1) = ks) (hg : Gl X x) (h : TabAt X.K X.mg x rows) (ha : Sd g X a a') (hd : (x == ("__debug__" : Str)) = false := by decide) (hm : behindInMarks (if neg then .NotIn else .In) (.Name x p) = false := by rfl) : SdT g X (.Compare a [if neg then .NotIn else .In] [.Name x p] pos) (.tabIn neg ks a') := by
 obtain ⟨q, o, es, ep, h1, h2, h3, h4, h5, h6⟩ := h
 subst hks
 exact Eh (gm (aaz neg h2 h3 h4 h5 h6) ha (iz (v := .ref q) hg h1 rfl hd) hm) fun sg H Q q => abd (abe q)
theorem abg (hks : rows.map (·.1) = ks) (hg : Gl X x) (h : TabAt X.K X.mg x rows) (ha : Sd g X a a') (hd : (x == ("__debug__" : Str)) = false := by decide) (hm : behindInMarks .NotIn (.Name x p) = false := by rfl) : SdT g X (.Compare a [.NotIn] [.Name x p] pos) (.tabIn true ks a') := abf true hks hg h ha hd hm
structure FnV (g : G) (X : Cx) (k np i : Nat) : Prop where
 ok : ∃ fd ps, FnOk X.prog X.w X.K X.mg X.base (CXd X.prog X.w) k (g.cls.fn i) fd ps (spD g.K g.cls np (g.call i)) ∧ Binds X.K fd ps []
 kp : PySem.W.keepIn X.K (.ref (g.cls.fn i)) = true
 len : ∀ ds st, ds.length ≠ np → g.call i ds st = .bad
theorem abh (hF : ∀ i ∈ is, FnV g X k np i) (hr : Room k X.A) (hx : Passes (CXd X.prog X.w) X g.xk) (hf : Sd g X (.Name x p) f') (ha : SdL g X (e :: es) es')
    (he : starEach (e :: es) X.env = (false, eval e X.env) :: starEach es X.env := by rfl) (hpl : (backTo pos (starEach es X.env)).any (·.1) = false := by rfl) : Sd g X (.Call (.Name x p) (e :: es) [] pos) (.callV is f' es') := by
  intro pins s sg H Q I h
  obtain ⟨rho, st, env, S, n, q⟩ := h
  simp only [Ad] at q
  refine wpAny_Call_Name_kw (thn (hf pins s sg H (fun v H1 => ∃ i, i ∈ is ∧ v = .ref (g.cls.fn i) ∧ ∃ r1 st1, g.Keep rho H r1 H1 ∧ g.Sto r1 st1 H1 ∧ g.Env r1 H1 env sg ∧ RQ g ((Au g.tab g.call es' env st1).bind fun ds st => g.call i ds st) (ar g rho H Q) r1 H1) I (step S n q fun d st1 x H1 r1 k1 s1 n1 rp q1 => ?_)) fun u s1 ⟨x, H1, I1, rx, i, hi, ex, r1, st1, k1, S1, n1, q1⟩ => ?_)
  · cases d with
    | loc m =>
      dsimp only at q1
      cases ec : st1[m]? with
      | none => rw [ec] at q1; exact q1.elim
      | some c =>
        rw [ec] at q1
        cases c with
        | fnc i =>
          dsimp only at q1
          split at q1
          · rename_i hc
            obtain ⟨a, hra, rfl⟩ := Bl.mp rp
            have hca : a = g.cls.fn i := s1.cells m a (.fnc i) hra ec
            subst hca
            exact ⟨i, by simpa using hc, rfl, r1, st1, k1, s1, n1, q1⟩
          · exact q1.elim
        | _ => exact q1.elim
    | _ => exact q1.elim
  · subst ex
    obtain rfl : u = Value.ref (g.cls.fn i) := rx
    obtain ⟨⟨fd, ps, F, hb⟩, hk, hlen⟩ := hF i hi
    refine PySem.W.callWith_K (h₀ := X.base) I.ok.mod.kin hk (thn (ha pos pins s1 sg H1 (fun vs H2 => spD g.K g.cls np (g.call i) (vs ++ []) H2 Q g.xk) I1 ?_) fun us s2 ⟨vs, H2, I2, r, q2⟩ => ⟨I2.kIn, ?_⟩) he hpl
    · refine eh S1 n1 q1 fun ds st2 vs H2 r2 k2 s2 n2 rps q2 => ?_
      have hl : ds.length = np := Decidable.byContradiction fun z => by rw [hlen _ _ z] at q2; exact q2
      refine ⟨by rw [List.append_nil, ← rps.length]; exact hl, r2, st2, ds, s2, by rw [List.append_nil]; exact rps, ?_⟩
      revert q2
      cases g.call i ds st2 with
      | ok d st' => exact fun q v H' rho' k s' r => (show ar g rho H Q d st' from q) v H' rho' ((k1.trans k2).trans k) s' r
      | exc c st' => exact fun q H' rho' k s' => q H' rho' k s'
      | bad => exact fun q => q
    · exact jt F hr hb (dvs := []) .nil hx I2 r q2
section
variable {prog : Program} {w : World} {A : Around} {E : Value → Shared → Prop} {s : Shared}
theorem Rg (hj : s.heap.IsTupleIter j t k) (ht : s.heap.IsTuple t cs) (hc : cs[k]? = some c)
    (q : ∀ h', h'.IsTupleIter j t (k + 1) → Heap.SameBut j s.heap h' → Q c { s with heap := h' }) : wpAny (model prog w) A (Builtin.SmallTypes.nextOf (.ref j)) Q E s := by
  obtain ⟨oj, e1, e2, e3⟩ := id hj
  obtain ⟨ot, f1, _, m, f2⟩ := ht
  unfold Builtin.SmallTypes.nextOf
  refine wpAny_bind (wpAny_callSpecial?_slot (name := Str.ofString "__next__") hj.typeIs F.slot_tuple_iterator_next (wpAny_call_entry F.slot_tuple_iterator_next hj.typeIs F.entry_tuple_iterator_next ?_ (F.args_tuple_iterator_next_1 _)))
  show wpAny _ _ (field (.ref j) 0 >>= _) _ _ s; refine wpAny_bind (wpAny_field e1 e3 (x := .ref t) rfl ?_)
  show wpAny _ _ (if (Value.ref t == Value.none) = true then _ else _) _ _ s; rw [if_neg (c := (Value.ref t == Value.none) = true) Bool.false_ne_true]
  show wpAny _ _ (field (.ref j) 1 >>= _) _ _ s; refine wpAny_bind (wpAny_field e1 e3 (x := .int k 0) rfl ?_)
  show wpAny _ _ (seqItems? (.ref t) >>= _) _ _ s; refine wpAny_bind (wpAny_seqItems f1 f2 ?_)
  simp only [Int.toNat_natCast, hc]
  refine wpAny_bind (wpAny_setField e1 e3 (by simp) (wpAny_pure ⟨c, rfl, wpAny_pure (q _ ⟨_, Heap.get?_update_self _ e1 (Obj.isFreed_of_fields (Obj.data_mapFields e3 _)), (Obj.cls_mapFields ..).trans e2, ?_⟩ (Heap.SameBut.update ..))⟩))
  rw [Obj.data_mapFields e3]; simp [rawInt]
theorem abi (hh : A.handled = none) (hj : s.heap.IsTupleIter j t k) (ht : s.heap.IsTuple t cs) (hc : cs[k]? = none)
    (q : ∀ h' e, Heap.ExtBut j s.heap h' → (∃ o, h'.get? e = some o ∧ o.cls = .type "StopIteration") → E (.ref e) { s with heap := h' }) : wpAny (model prog w) A (Builtin.SmallTypes.nextOf (.ref j)) Q E s := by
  obtain ⟨oj, e1, e2, e3⟩ := id hj
  obtain ⟨ot, f1, _, m, f2⟩ := ht
  unfold Builtin.SmallTypes.nextOf
  refine wpAny_bind (wpAny_callSpecial?_slot (name := Str.ofString "__next__") hj.typeIs F.slot_tuple_iterator_next (wpAny_call_entry F.slot_tuple_iterator_next hj.typeIs F.entry_tuple_iterator_next ?_ (F.args_tuple_iterator_next_1 _)))
  show wpAny _ _ (field (.ref j) 0 >>= _) _ _ s; refine wpAny_bind (wpAny_field e1 e3 (x := .ref t) rfl ?_)
  show wpAny _ _ (if (Value.ref t == Value.none) = true then _ else _) _ _ s; rw [if_neg (c := (Value.ref t == Value.none) = true) Bool.false_ne_true]
  show wpAny _ _ (field (.ref j) 1 >>= _) _ _ s; refine wpAny_bind (wpAny_field e1 e3 (x := .int k 0) rfl ?_)
  show wpAny _ _ (seqItems? (.ref t) >>= _) _ _ s; refine wpAny_bind (wpAny_seqItems f1 f2 ?_)
  simp only [Int.toNat_natCast, hc]
  refine wpAny_bind (wpAny_rule (wpAny_bind (wpAny_setField e1 e3 (by simp) ?_))); show wpAny _ _ (newExc (.type "StopIteration") [] >>= _) _ _ _
  refine wpAny_bind ?_; simp only [newExc, newTuple]
  refine wpAny_bind (wpAny_newObj_type (wpAny_bind (m := firstArgMember _ _) (wpAny_of_eq (a := Value.none) (by first | rfl | (simp only [firstArgMember]; rfl)) (wpAny_newObj_type ?_ (by size_fits)))) (by size_fits))
  simp only [raiseNew]; refine wpAny_bind (wpAny_handled ?_); first | rw [show A.in1.handled = none from hh] | rw [hh]
  refine wpAny_bind (wpAny_pure (wpAny_throw ?_)); exact q _ _ (((Heap.SameBut.update ..).extBut.push _).push _) ⟨_, Heap.get?_push_size _ rfl, rfl⟩
def kj (l1 l2 z TI TO i1 i2 : Addr) (i : Nat) (h : Heap) : Prop := IsZip h z TI TO .none ∧ IsPair h TI (.ref i1) (.ref i2) ∧ (∃ a b, IsPair h TO a b) ∧ h.IsTupleIter i1 l1 i ∧ h.IsTupleIter i2 l2 i
theorem abj {z TI TO i1 i2 l1 l2 : Addr} {k : Nat} {xs ys : Array Value} {c d : Value} {Q : Option Value → Shared → Prop} (P : ZipApart z TI TO i1 i2 l1 l2) (st : kj l1 l2 z TI TO i1 i2 k s.heap) (t1 : s.heap.IsTuple l1 xs) (t2 : s.heap.IsTuple l2 ys) (hx : xs[k]? = some c) (hy : ys[k]? = some d)
    (q : ∀ h', IsZip h' z TI TO (rawInt s.heap.objs.size) → IsPair h' TI (.ref i1) (.ref i2) → IsPair h' TO c d → h'.IsTupleIter i1 l1 (k + 1) → h'.IsTupleIter i2 l2 (k + 1) → IsPair h' s.heap.objs.size c d → h'.objs.size = s.heap.objs.size + 1 →
      (∀ b o, b ≠ z → b ≠ TO → b ≠ i1 → b ≠ i2 → s.heap.get? b = some o → h'.get? b = some o) → Q (some (.ref s.heap.objs.size)) { s with heap := h' }) : wpAny (model prog w) A (pyNext (.ref z)) Q E s := by
  obtain ⟨hz, hTI, ⟨a0, b0, hTO⟩, j1, j2⟩ := st
  have hT : s.TypeIs (.ref z) "zip" := ⟨_, hz, rfl⟩
  unfold pyNext
  refine wpAny_bind (wpAny_attempt (wpAny_callSpecial?_slot (name := Str.ofString "__next__") hT F.slot_zip_next (wpAny_call_entry F.slot_zip_next hT F.entry_zip_next ?_ (F.args_zip_next_1 _))))
  show wpAny _ _ (field (.ref z) 2 >>= _) _ _ _; refine wpAny_bind (wpAny_field hz rfl (x := .bool false) rfl ?_)
  show wpAny _ _ (field (.ref z) 3 >>= _) _ _ _; refine wpAny_bind (wpAny_field hz rfl (x := .ref TI) rfl (wpAny_bind (wpAny_seqItems hTI rfl ?_)))
  show wpAny _ _ (Builtin.SmallTypes.ownedTupleIsFree (.ref z) >>= _) _ _ _; refine wpAny_bind ?_; unfold Builtin.SmallTypes.ownedTupleIsFree
  refine wpAny_bind (wpAny_field hz rfl (x := .none) rfl (wpAny_pure ?_)); simp only [if_true]
  refine wpAny_bind (wpAny_rule (wpAny_bind (wpAny_field hz rfl (x := .ref TO) rfl (wpAny_bind (wpAny_setField_rec hz (by simp) fun u1 z1 b1 => ?_)))))
  replace z1 : IsZip u1 z TI TO .ellipsis := z1
  refine wpAny_bind ?_; simp only [List.zipIdx_cons, List.zipIdx_nil, List.forIn_cons, List.forIn_nil]
  refine wpAny_bind (wpAny_bind (wpAny_onRaise ?_)); show wpAny _ _ (Builtin.SmallTypes.nextOf (.ref i1) >>= _) _ _ _
  refine wpAny_bind (Rg (j1.extBut b1.extBut P.i1z) (t1.extBut b1.extBut P.l1z) hx fun u2 j1b b2 => wpAny_pure ?_)
  have o2 : IsPair u2 TO a0 b0 := b2.extBut _ _ P.TOi1 (b1.extBut _ _ P.TOz hTO)
  refine wpAny_bind (wpAny_seqItems o2 rfl (wpAny_bind (wpAny_updateSeq_pair o2 fun u3 o3 b3 => ?_)))
  replace o3 : IsPair u3 TO c b0 := o3
  refine wpAny_bind (wpAny_letGo (wpAny_pure (wpAny_bind (wpAny_bind (wpAny_onRaise ?_))))); show wpAny _ _ (Builtin.SmallTypes.nextOf (.ref i2) >>= _) _ _ _
  refine wpAny_bind (Rg (((j2.extBut b1.extBut P.i2z).extBut b2.extBut P.i12.symm).extBut b3.extBut P.TOi2.symm) (((t2.extBut b1.extBut P.l2z).extBut b2.extBut P.l2i1).extBut b3.extBut P.l2TO) hy fun u4 j2b b4 => wpAny_pure ?_)
  have o4 : IsPair u4 TO c b0 := b4.extBut _ _ P.TOi2 o3
  refine wpAny_bind (wpAny_seqItems o4 rfl (wpAny_bind (wpAny_updateSeq_pair o4 fun u5 o5 b5 => ?_)))
  replace o5 : IsPair u5 TO c d := o5
  refine wpAny_bind (wpAny_letGo (wpAny_pure (wpAny_pure (wpAny_bind (wpAny_seqItems o5 rfl (wpAny_bind (wpAny_newTuple ?_)))))))
  have sz : u5.objs.size = s.heap.objs.size := by rw [b5.1, b4.1, b3.1, b2.1, b1.1]
  have z5 : IsZip u5 z TI TO .ellipsis := b5.extBut _ _ P.TOz.symm (b4.extBut _ _ P.i2z.symm (b3.extBut _ _ P.TOz.symm (b2.extBut _ _ P.i1z.symm z1)))
  have k5 : ∀ b o, b ≠ z → b ≠ TO → b ≠ i1 → b ≠ i2 → s.heap.get? b = some o → u5.get? b = some o := fun b o n1 n2 n3 n4 e => b5.extBut _ _ n2 (b4.extBut _ _ n4 (b3.extBut _ _ n2 (b2.extBut _ _ n3 (b1.extBut _ _ n1 e))))
  have j15 : u5.IsTupleIter i1 l1 (k + 1) := ((j1b.extBut b3.extBut P.TOi1.symm).extBut b4.extBut P.i12).extBut b5.extBut P.TOi1.symm
  have j25 : u5.IsTupleIter i2 l2 (k + 1) := j2b.extBut b5.extBut P.TOi2.symm
  have lz : z < u5.objs.size := Heap.lt_size z5
  show wpAny _ _ (Builtin.SmallTypes.ownedTupleHandOut (.ref z) (.ref u5.objs.size) >>= _) _ _ _; refine wpAny_bind ?_; unfold Builtin.SmallTypes.ownedTupleHandOut
  have z6 : IsZip (u5.push { cls := .type "tuple", data := .seq #[c, d] }) z TI TO .ellipsis := Heap.get?_push_of_some _ z5
  refine wpAny_bind (wpAny_setField_rec z6 (by simp) fun u7 z7 b7 => ?_)
  replace z7 : IsZip u7 z TI TO (rawInt u5.objs.size) := z7
  refine wpAny_setField_rec z7 (by simp) fun u8 z8 b8 => ?_
  replace z8 : IsZip u8 z TI TO (rawInt u5.objs.size) := z8
  have up : ∀ b o, b ≠ z → u5.get? b = some o → u8.get? b = some o := fun b o n e => b8.extBut _ _ n (b7.extBut _ _ n (Heap.get?_push_of_some _ e))
  have p8 : IsPair u8 u5.objs.size c d := b8.extBut _ _ (Nat.ne_of_gt lz) (b7.extBut _ _ (Nat.ne_of_gt lz) (Heap.get?_push_size _ rfl))
  have s8 : u8.objs.size = u5.objs.size + 1 := by rw [b8.1, b7.1, Heap.size_push]
  rw [sz] at z8 p8 s8
  refine wpAny_pure ⟨_, rfl, ?_⟩
  show wpAny _ _ (pure (some (Value.ref u5.objs.size))) _ _ _
  rw [sz]
  exact wpAny_pure (q u8 z8 (up _ _ P.TIz (k5 _ _ P.TIz P.TITO P.TIi1 P.TIi2 hTI)) (up _ _ P.TOz o5) (j15.at fun o e => up _ o P.i1z e) (j25.at fun o e => up _ o P.i2z e) p8 s8 fun b o n1 n2 n3 n4 e => up b o n1 (k5 b o n1 n2 n3 n4 e))
theorem abk {z TI TO i1 i2 l1 l2 : Addr} {k : Nat} {xs : Array Value} {Q : Option Value → Shared → Prop} (hh : A.handled = none) (P : ZipApart z TI TO i1 i2 l1 l2) (st : kj l1 l2 z TI TO i1 i2 k s.heap) (t1 : s.heap.IsTuple l1 xs) (hx : xs[k]? = none)
    (q : ∀ h', (∀ b o, b ≠ z → b ≠ TO → b ≠ i1 → b ≠ i2 → s.heap.get? b = some o → h'.get? b = some o) → Q none { s with heap := h' }) : wpAny (model prog w) A (pyNext (.ref z)) Q E s := by
  obtain ⟨hz, hTI, ⟨a0, b0, hTO⟩, j1, j2⟩ := st
  have hT : s.TypeIs (.ref z) "zip" := ⟨_, hz, rfl⟩
  unfold pyNext
  refine wpAny_bind (wpAny_attempt (wpAny_callSpecial?_slot (name := Str.ofString "__next__") hT F.slot_zip_next (wpAny_call_entry F.slot_zip_next hT F.entry_zip_next ?_ (F.args_zip_next_1 _))))
  show wpAny _ _ (field (.ref z) 2 >>= _) _ _ _; refine wpAny_bind (wpAny_field hz rfl (x := .bool false) rfl ?_)
  show wpAny _ _ (field (.ref z) 3 >>= _) _ _ _; refine wpAny_bind (wpAny_field hz rfl (x := .ref TI) rfl (wpAny_bind (wpAny_seqItems hTI rfl ?_)))
  show wpAny _ _ (Builtin.SmallTypes.ownedTupleIsFree (.ref z) >>= _) _ _ _; refine wpAny_bind ?_; unfold Builtin.SmallTypes.ownedTupleIsFree
  refine wpAny_bind (wpAny_field hz rfl (x := .none) rfl (wpAny_pure ?_)); simp only [if_true]
  refine wpAny_bind (wpAny_rule (wpAny_bind (wpAny_field hz rfl (x := .ref TO) rfl (wpAny_bind (wpAny_setField_rec hz (by simp) fun u1 z1 b1 => ?_)))))
  replace z1 : IsZip u1 z TI TO .ellipsis := z1
  refine wpAny_bind ?_; simp only [List.zipIdx_cons, List.zipIdx_nil, List.forIn_cons, List.forIn_nil]
  refine wpAny_bind (wpAny_bind (wpAny_onRaise ?_)); show wpAny _ _ (Builtin.SmallTypes.nextOf (.ref i1) >>= _) _ _ _
  refine wpAny_bind (abi hh (j1.extBut b1.extBut P.i1z) (t1.extBut b1.extBut P.l1z) hx fun u2 e b2 he => ?_)
  obtain ⟨oe, h1, h2⟩ := he
  have z2 : IsZip u2 z TI TO .ellipsis := b2 _ _ P.i1z.symm z1
  have ne : e ≠ z := fun x => by subst x; rw [z2] at h1; cases h1; simp at h2
  refine wpAny_setField_rec z2 (by simp) fun u3 _ b3 => ?_
  refine wpAny_bind (wpAny_isInstance (T := "StopIteration") (b := true) ⟨oe, b3.extBut _ _ ne h1, h2⟩ isSubtype_stop ?_)
  exact wpAny_pure (q _ fun b o n1 _ n3 _ x => b3.extBut _ _ n1 (b2 _ _ n3 (b1.extBut _ _ n1 x)))
abbrev zt1 (h : Heap) (l1 : Addr) : Heap := h.push { cls := .type "tuple_iterator", data := .fields #[.ref l1, .int 0 0] }
abbrev zt2 (h : Heap) (l1 l2 : Addr) : Heap := (zt1 h l1).push { cls := .type "tuple_iterator", data := .fields #[.ref l2, .int 0 0] }
abbrev zt3 (h : Heap) (l1 l2 : Addr) : Heap := (zt2 h l1 l2).push { cls := .type "tuple", data := .seq #[.ref h.objs.size, .ref (zt1 h l1).objs.size] }
abbrev zt4 (h : Heap) (l1 l2 : Addr) : Heap := (zt3 h l1 l2).push { cls := .type "tuple", data := .seq #[.none, .none] }
abbrev zt5 (h : Heap) (l1 l2 : Addr) : Heap := (zt4 h l1 l2).push { cls := .type "zip", data := .fields #[.none, .bool false, .bool false, .ref (zt2 h l1 l2).objs.size, .ref (zt3 h l1 l2).objs.size] }
theorem abl (l1 l2 : Addr) (xs ys : Array Value) : Meets (Builtin.«zip.__new__» ⟨[.type "zip", .ref l1, .ref l2], []⟩) (fun _ R s => s.heap.IsTuple l1 xs ∧ s.heap.IsTuple l2 ys ∧ R (.ok (.ret (.ref (zt4 s.heap l1 l2).objs.size))) { s with heap := zt5 s.heap l1 l2 }) :=
 .of_wp fun prog w A R s h => by
  obtain ⟨hp, gg, dd, tk, os⟩ := s; obtain ⟨h1, h2, h⟩ := h
  have y1 := sub_zip
  have y2 : Heap.IsTuple (Shared.heap ⟨hp, gg, dd, tk, os⟩) l1 xs := h1
  have y3 : Heap.IsTuple (Shared.heap ⟨hp.push { cls := .type "tuple_iterator", data := .fields #[.ref l1, .int 0 0] }, gg, dd, tk, os⟩) l2 ys := Heap.IsTuple.push h2 _
  wp_walk using wpAny_pyIter_tuple y2, wpAny_pyIter_tuple y3
  exact ⟨_, rfl, h⟩
theorem abm (t1 : s.heap.IsTuple l1 xs) (t2 : s.heap.IsTuple l2 ys)
    (h : ∀ h', kj l1 l2 (s.heap.objs.size + 4) (s.heap.objs.size + 2) (s.heap.objs.size + 3) s.heap.objs.size (s.heap.objs.size + 1) 0 h' → (∀ b o, s.heap.get? b = some o → h'.get? b = some o) → Q (.ref (s.heap.objs.size + 4)) { s with heap := h' }) : wpAny (model prog w) A (call (.type "zip") [.ref l1, .ref l2]) Q E s := by
  refine callType_new F.called_zip (by decide) (F.typeCall_zip_2 _ _) (F.newCall_zip_2 _ _) (fun obj => F.args_object_init_3 obj _ _) F.entry_zip_new (abl l1 l2 xs ys) ⟨t1, t2, ?_⟩
  have n1 : (zt1 s.heap l1).objs.size = s.heap.objs.size + 1 := Heap.size_push ..
  have n2 : (zt2 s.heap l1 l2).objs.size = s.heap.objs.size + 2 := by rw [Heap.size_push, n1]
  have n3 : (zt3 s.heap l1 l2).objs.size = s.heap.objs.size + 3 := by rw [Heap.size_push, n2]
  have n4 : (zt4 s.heap l1 l2).objs.size = s.heap.objs.size + 4 := by rw [Heap.size_push, n3]
  have a5 : (zt5 s.heap l1 l2).get? (zt4 s.heap l1 l2).objs.size = some _ := Heap.get?_push_size _ rfl
  have a4 : (zt5 s.heap l1 l2).get? (zt3 s.heap l1 l2).objs.size = some _ := Heap.get?_push_of_some _ (Heap.get?_push_size _ rfl)
  have a3 : (zt5 s.heap l1 l2).get? (zt2 s.heap l1 l2).objs.size = some _ := Heap.get?_push_of_some _ (Heap.get?_push_of_some _ (Heap.get?_push_size _ rfl))
  have a2 : (zt5 s.heap l1 l2).get? (zt1 s.heap l1).objs.size = some _ := Heap.get?_push_of_some _ (Heap.get?_push_of_some _ (Heap.get?_push_of_some _ (Heap.get?_push_size _ rfl)))
  have a1 : (zt5 s.heap l1 l2).get? s.heap.objs.size = some _ := Heap.get?_push_of_some _ (Heap.get?_push_of_some _ (Heap.get?_push_of_some _ (Heap.get?_push_of_some _ (Heap.get?_push_size _ rfl))))
  show _ ∧ _
  rw [n2, n3, n4] at a5
  rw [n1, n2] at a3
  rw [n3] at a4
  rw [n1] at a2
  rw [n4]
  exact ⟨⟨_, a5, rfl⟩, h _ ⟨a5, a3, ⟨_, _, a4⟩, ⟨_, a1, rfl, rfl⟩, ⟨_, a2, rfl, rfl⟩⟩ fun b o x => Heap.get?_push_of_some _ (Heap.get?_push_of_some _ (Heap.get?_push_of_some _ (Heap.get?_push_of_some _ (Heap.get?_push_of_some _ x))))⟩
end
variable {g : G} {X : Cx} {pos apos cpos : Pos} {F : Nat}
def Mu (K : PySem.W.Frag) (a b : Addr) : It :=
 ⟨fun i H => ∃ xs ys x y, SqT K H a xs ∧ SqT K H b ys ∧ xs[i]? = some x ∧ ys[i]? = some y, fun i H x H' => ∃ c v w, x = .ref c ∧ H c = none ∧ H' = upd H c (.tup [v, w]) ∧ (∀ xs, SqT K H a xs → xs[i]? = some v) ∧ ∀ ys, SqT K H b ys → ys[i]? = some w, fun i H => ∃ xs, SqT K H a xs ∧ xs.length ≤ i⟩
theorem abn {P : Program} {w : World} {K : PySem.W.Frag} {elts : List Expr} {x1} {pt : Pos} {l1 l2 z TI TO i1 i2 : Addr} (D : ZipApart z TI TO i1 i2 l1 l2) : Turn P w K (.Tuple elts x1 pt) (Mu K l1 l2) [z, TI, TO, i1, i2] z (kj l1 l2 z TI TO i1 i2) where
 mem := by simp
 obj := fun i h st b hb => by
  obtain ⟨hz, hTI, ⟨a0, b0, hTO⟩, ⟨o1, h1, c1, d1⟩, ⟨o2, h2, c2, d2⟩⟩ := st
  simp only [List.mem_cons, List.not_mem_nil, or_false] at hb
  rcases hb with rfl | rfl | rfl | rfl | rfl
  · exact ⟨_, hz, fun v z => by cases z⟩
  · exact ⟨_, hTI, fun v z => by cases z⟩
  · exact ⟨_, hTO, fun v z => by cases z⟩
  · exact ⟨o1, h1, fun v z => by rw [d1] at z; cases z⟩
  · exact ⟨o2, h2, fun v z => by rw [d2] at z; cases z⟩
 keep := fun i h h' st k => by
  obtain ⟨hz, hTI, ⟨a0, b0, hTO⟩, h1, h2⟩ := st
  exact ⟨k z (by simp) _ hz, k TI (by simp) _ hTI, ⟨a0, b0, k TO (by simp) _ hTO⟩, h1.at fun o q => k i1 (by simp) o q, h2.at fun o q => k i2 (by simp) o q⟩
 item := by
  intro X hP hw hK hc i pins s sg H E I hf st hg
  subst hP hw hK
  obtain ⟨xs, ys, x, y, hq1, hq2, hx, hy⟩ := hg
  obtain ⟨its1, rv1, p1, hz1⟩ := I.tuple hq1
  obtain ⟨its2, rv2, p2, hz2⟩ := I.tuple hq2
  obtain ⟨u1, hu1, ru1⟩ := rv1.get hx
  obtain ⟨u2, hu2, ru2⟩ := rv2.get hy
  refine abj D st p1 p2 (c := u1) (d := u2) (by simpa using hu1) (by simpa using hu2) fun h' hz' hTI' hTO' h1' h2' hT hsz hk => ?_
  obtain ⟨hz, hTI, ⟨a0, b0, hTO⟩, h1, h2⟩ := st
  refine ⟨_, rfl, wpAny_letOwnedTupleGo_zip hz' fun h3 hz3 hs3 => ?_⟩
  have hlt : ∀ b ∈ [z, TI, TO, i1, i2], b < s.heap.objs.size := fun b hb => by
   simp only [List.mem_cons, List.not_mem_nil, or_false] at hb
   rcases hb with rfl | rfl | rfl | rfl | rfl
   · exact Heap.lt_size hz
   · exact Heap.lt_size hTI
   · exact Heap.lt_size hTO
   · obtain ⟨o, q, _⟩ := h1; exact Heap.lt_size q
   · obtain ⟨o, q, _⟩ := h2; exact Heap.lt_size q
  have hne : ∀ b ∈ [z, TI, TO, i1, i2], b ≠ s.heap.objs.size := fun b hb => Nat.ne_of_lt (hlt b hb)
  have hn : H s.heap.objs.size = none := I.hok.fresh (Nat.le_refl _)
  have I1 := I.laid (a := s.heap.objs.size) (o := .tup [x, y]) (h' := s.heap.push { cls := .type "tuple", data := .seq #[u1, u2] }) (t' := s.toks) (fun b u e => Heap.get?_push_of_some _ e) (Nat.le_refl _)
   ⟨by rw [sizeLine_eq]; simp, [u1, u2], .cons ru1 (.cons ru2 .nil), ⟨_, Heap.get?_push_size _ rfl, rfl, _, rfl⟩⟩
  have hf1 : ∀ b ∈ [z, TI, TO, i1, i2], cy X pins (upd H s.heap.objs.size (.tup [x, y])) b := fun b hb => ⟨by rw [Be (hne b hb)]; exact (hf b hb).1, (hf b hb).2⟩
  have I2 := Rb (t' := s.toks) (h' := h3) I1 hf1 fun b o hb q => by
   have hbz : b ≠ z := fun e => hb (by simp [e])
   by_cases hbs : b = s.heap.objs.size
   · subst hbs
     rw [Heap.get?_push_size _ rfl] at q
     cases q
     exact (hs3.2 _ hbz).trans hT
   · have q' : s.heap.get? b = some o := (Heap.get?_push_cases q).elim (fun e => absurd e.1 hbs) id
     exact (hs3.2 _ hbz).trans (hk b o hbz (fun e => hb (by simp [e])) (fun e => hb (by simp [e])) (fun e => hb (by simp [e])) q')
  refine ⟨.ref s.heap.objs.size, _, I2, rfl, ⟨_, x, y, rfl, hn, rfl, fun zs hq => by rw [I.tuple_inj hq hq1]; exact hx, fun zs hq => by rw [I.tuple_inj hq hq2]; exact hy⟩, ⟨hz3, (hs3.2 _ D.TIz).trans hTI', ⟨_, _, (hs3.2 _ D.TOz).trans hTO'⟩, h1'.at fun o q => (hs3.2 _ D.i1z).trans q, h2'.at fun o q => (hs3.2 _ D.i2z).trans q⟩, fun b hb => (hf1 b hb).1⟩
 done := by
  intro X hP hw hK hc i pins s sg H E I hf st hg
  subst hP hw hK
  obtain ⟨xs, hq1, hx⟩ := hg
  obtain ⟨its1, rv1, p1, hz1⟩ := I.tuple hq1
  have hl := rv1.length
  exact abk (I.ok.hd hc) D st p1 (by simp; omega) fun h' hk => ⟨rfl, Rb (t' := s.toks) I hf fun b o hb q => hk b o (fun e => hb (by simp [e])) (fun e => hb (by simp [e])) (fun e => hb (by simp [e])) (fun e => hb (by simp [e])) q⟩
 self := fun _ i s Q E st h => wpAny_pyIter_zip st.1 h
def abo (K : PySem.W.Frag) (ta : TA) : TI := fun sg H R => ta sg H fun vs H1 => ∃ a b, vs = [.ref a, .ref b] ∧ (∃ xs, SqT K H1 a xs) ∧ (∃ ys, SqT K H1 b ys) ∧ R (Mu K a b) H1
theorem abp {elts : List Expr} {x1} {pt p pos : Pos} (hg : Gl X "zip") (hm : X.mg "zip" = none) (ha : PA X [l, m] ta) (hs : starEach [l, m] X.env = [(false, eval l X.env), (false, eval m X.env)] := by rfl) (hs2 : starEach [m] X.env = [(false, eval m X.env)] := by rfl) : PI X (.Tuple elts x1 pt) (.Call (.Name "zip" p) [l, m] [] pos) (abo X.K ta) := by
 intro pins s sg H R I h
 refine Call_ (Gk I hg hm aas (PyProof.Rows.callWith_type1 (thn (ha pos pins s sg H _ I h) fun us s1 ⟨vs, H1, I1, r1, q1⟩ => ?_) (by rw [hs, hs2]) (by rw [hs2]; rfl)))
 obtain ⟨a, b, e, ⟨xs, hq1⟩, ⟨ys, hq2⟩, q⟩ := q1
 subst e
 cases r1 with
 | cons r rr =>
  cases rr with
  | cons r' rr =>
  cases rr
  cases r
  cases r'
  obtain ⟨its1, rv1, p1, hz1⟩ := I1.tuple hq1
  obtain ⟨its2, rv2, p2, hz2⟩ := I1.tuple hq2
  have a1 : a < s1.heap.objs.size := by obtain ⟨o, q, _⟩ := p1; exact Heap.lt_size q
  have a2 : b < s1.heap.objs.size := by obtain ⟨o, q, _⟩ := p2; exact Heap.lt_size q
  refine abm p1 p2 fun h' hst hk => wpAny_pyIter_zip hst.1 ?_
  refine ⟨_, [s1.heap.objs.size + 4, s1.heap.objs.size + 2, s1.heap.objs.size + 3, s1.heap.objs.size, s1.heap.objs.size + 1], _, _, H1, rfl, I1.kept (t' := s1.toks) hk, abn (zipApart_new a1 a2), hst, fun c hc => ?_, q⟩
  have hc : s1.heap.objs.size ≤ c := by
   simp only [List.mem_cons, List.not_mem_nil, or_false] at hc
   rcases hc with e | e | e | e | e <;> rw [e] <;> first | exact Nat.le_add_right _ _ | exact Nat.le_refl _
  exact I1.fpOk hc (I1.hok.fresh hc)
theorem abq {t1 t2 : List Nat} {o1 o2 : Bool} {elts : List Expr} {x1} {pt p pos2 : Pos} {l m : Expr} {body : List Stmt} {x' : Ss} {l' m' : E} (hK : X.K = g.K) (hp : PassesOwn (model X.prog X.w) X.A X.env X.xe) (hc : X.calm = true) (hg : Gl X "zip") (hm : X.mg "zip" = none) (ha : Sd g X l l') (hb : Sd g X m m') (ht : PG X (.Tuple elts x1 pt) (tgZ g.K t1 o1 t2 o2)) (hx : Di g X F body x')
    (he : starEach [l, m] X.env = [(false, eval l X.env), (false, eval m X.env)] := by rfl) (he2 : starEach [m] X.env = [(false, eval m X.env)] := by rfl) (hs : ∀ x, foldedSetIterable (.Call (.Name "zip" p) [l, m] [] pos) X.env x = pure x := by intro _; rfl) : SdS g X F (.For (.Tuple elts x1 pt) (.Call (.Name "zip" p) [l, m] [] pos) body [] pos2) (.forZT t1 o1 t2 o2 l' m' x') :=
  dc (Jq hp hc (abp hg hm (aa ha (aa hb Ab he2) (by rw [he, he2])) he he2) ht hx hs) fun D sg H q => by
  obtain ⟨rho, st, env, s, n, q⟩ := q
  simp only [An] at q
  refine qb s n q fun ds st1 vs H1 r1 hl k1 s1 n1 rps q1 => ?_
  split at q1
  · rename_i xs ys
    simp only [G.RepL, RepL] at rps
    obtain ⟨v1, w1, rfl, rp1, v2, w2, rfl, rp2, rfl⟩ := rps
    split at q1
    · rename_i hle
      obtain ⟨a, vs, rfl, sq1, rl1⟩ := bz.mp rp1
      obtain ⟨b, ws, rfl, sq2, rl2⟩ := bz.mp rp2
      refine ⟨a, b, rfl, ⟨vs, by rw [hK]; exact sq1⟩, ⟨ws, by rw [hK]; exact sq2⟩, ?_⟩
      rw [hK]
      refine aar (J := Mu g.K a b) (ws := fe xs ys) (sf := fun d env => Gq t1 o1 t2 o2 d env) (fun rho st H kk s hst => ?_) (fun rho H Q d v env env' sg e r n h => aat e r n h) s1 n1 (RQ.mono (.refl _ _) q1 fun f st p => Bd.mono k1 p)
      have sq3 := kk.tup a vs sq1
      have sq4 := kk.tup b ws sq2
      have rl3 := rl1.mono kk
      have rl4 := rl2.mono kk
      refine ⟨⟨vs, sq3, by rw [aau hle, rl3.length]; exact Nat.le_refl _⟩, fun k d hd => ?_⟩
      simp only [fe, List.getElem?_zipWith] at hd
      cases hx1 : xs[k]? with
      | none => rw [hx1] at hd; simp at hd
      | some x =>
        cases hy1 : ys[k]? with
        | none => rw [hx1, hy1] at hd; simp at hd
        | some y =>
          rw [hx1, hy1] at hd
          simp at hd
          subst hd
          obtain ⟨v, hv, rv⟩ := rl3.get hx1
          obtain ⟨w, hw, rw1⟩ := rl4.get hy1
          refine ⟨⟨vs, ws, v, w, sq3, sq4, hv, hw⟩, fun x0 H' yy => ?_⟩
          obtain ⟨c, v', w', rfl, hcn, rfl, z1, z2⟩ := yy
          have z1 := z1 _ sq3
          have z2 := z2 _ sq4
          rw [hv] at z1; cases z1
          rw [hw] at z2; cases z2
          have eS := ff hcn (.tup [v, w])
          have k0 : g.Keep rho H rho _ := bg.keep eS rho
          exact ⟨eS, bz.mpr ⟨c, _, rfl, SqT.of cj, by simp only [G.RepL, RepL]; exact ⟨_, _, rfl, rv.mono k0, _, _, rfl, rw1.mono k0, rfl⟩⟩⟩
    · exact q1.elim
  · exact q1.elim
variable {g : G} {X : Cx} {pos apos cpos : Pos} {F : Nat}
end DD
namespace My
open PySem PySem.Spec L2 DD
open PyProof.Rows hiding St
noncomputable def top (i : Nat) : Stmt := PySem.Challenge.pw_partproof_k04_kinds_of_terms.main.body.getD i (.Pass ⟨0, 0, 0, 0⟩)
noncomputable def abr : Stmt → List Stmt
 | .ClassDef _ _ _ b _ _ _ _ _ _ _ => b
 | _ => []
noncomputable def En (i j : Nat) : Stmt := (abr (top i)).getD j (.Pass ⟨0, 0, 0, 0⟩)
abbrev Lv (s : Stmt) (x : String) : Prop := (au s).names.lookup (Str.ofString x) = some NameKind.local
abbrev fO (x q : Str) (s : Stmt) := PySem.W.fnOf x q (Ia s) (Fv s) (au s)
theorem Kj {P : Program} {w : World} {X : Cx} : Passes (CXd P w) X (fun _ _ _ => False) := fun _ _ _ _ _ _ _ ⟨_, _, _, _, _, _, _, h⟩ => h.elim
abbrev Gw : Stmt := top 11
abbrev Fj : Stmt := top 12
abbrev gd : Stmt := top 13
abbrev gx : Stmt := top 17
abbrev Gd : Stmt := top 18
abbrev Dz : Stmt := top 19
abbrev dt : Stmt := top 20
abbrev Gx : Stmt := top 21
abbrev fk : Stmt := top 22
abbrev fm : Stmt := top 23
abbrev Fm : Stmt := top 24
abbrev Dt : Stmt := top 25
abbrev fo : Stmt := top 26
abbrev Fo : Stmt := top 27
abbrev gy : Stmt := top 35
abbrev Gy : Stmt := top 36
abbrev gz : Stmt := top 37
abbrev Gz : Stmt := top 38
abbrev Ha : Stmt := top 39
abbrev Hb : Stmt := top 40
abbrev Ea : Stmt := top 41
abbrev Hc : Stmt := top 42
abbrev Hd : Stmt := top 43
abbrev He : Stmt := top 44
abbrev Hf : Stmt := top 45
abbrev Dk : Stmt := En 46 0
abbrev Ge : Stmt := En 46 6
abbrev gf : Stmt := En 46 8
abbrev Gf : Stmt := top 48
abbrev Eo : Stmt := top 49
abbrev Hg : Stmt := top 50
abbrev Dl : Stmt := top 51
abbrev du : Stmt := top 52
abbrev Gg : Stmt := top 53
abbrev Cs : Stmt := top 54
abbrev Ep : Stmt := top 55
abbrev Du : Stmt := top 56
abbrev er : Stmt := top 57
abbrev Et : Stmt := top 58
abbrev eu : Stmt := top 59
abbrev Cw : Stmt := top 60
abbrev ci (i : Int) : E := .cst (.int i)
abbrev cs (x : Str) : E := .cst (.str x)
abbrev o1 (e : E) : Es := .cons e .nil
abbrev o2 (s : S) : Ss := .cons s .nil
noncomputable def abt : Ss := (o2 (.whileS (.cst (.bl true)) (.cons .pass .nil)))
noncomputable def rh : Ss := (o2 (.ret (.andE (.isi (.var 0) (.b "int")) (.notE (.isi (.var 0) (.b "bool"))))))
noncomputable def Kk : Ss := (.cons (.ifS (.orE (.notE (.isi (.var 0) (.b "tuple"))) (.cm .ne (.bt .lenB (o1 (.var 0))) (ci 2))) (o2 (.ret (.cst (.bl false)))) .nil) (.cons (.unp [1, 2] (.var 0)) (.cons (.ifS (.orE (.notE (.call 1 (o1 (.var 1)) [])) (.notE (.call 1 (o1 (.var 2)) []))) (o2 (.ret (.cst (.bl false)))) .nil) (o2 (.ret (.andE (.cm .ge (.var 2) (ci 1)) (.cm .eq (.call 3 (.cons (.var 1) (o1 (.var 2))) []) (ci 1))))))))
noncomputable def kl : Ss := (.cons (.par 0 1 (.bt .absB (o1 (.var 0))) (.bt .absB (o1 (.var 1)))) (.cons (.whileS (.cm .ne (.var 1) (ci 0)) (o2 (.par 0 1 (.var 1) (.op .mod (.var 0) (.var 1))))) (o2 (.ret (.var 0)))))
noncomputable def Kl : Ss := (.cons (.ifS (.orE (.notE (.isi (.var 0) (.b "tuple"))) (.orE (.notE (.var 0)) (.notE (.isi (.ix (.var 0) (ci 0)) (.b "str"))))) (o2 (.ret (.cst .non))) .nil) (o2 (.ret (.ix (.var 0) (ci 0)))))
noncomputable def Ii : Ss := (o2 (.ret (.call 6 (.cons (.var 0) (.cons (.var 1) (o1 (ci 12)))) [])))
noncomputable def Eu : Ss := (.cons (.set 3 (.call 4 (o1 (.var 1)) [])) (.cons (.ifS (.orE (.cm .lt (.var 2) (ci 1)) (.orE (.tabIn true ["number", "unknown", "weigh", "plus", "call", "read", "put"] (.var 3)) (.cm .ne (.bt .lenB (o1 (.var 1))) (.tabV [("number", (.int 2)), ("unknown", (.int 2)), ("weigh", (.int 3)), ("plus", (.int 2)), ("call", (.int 3)), ("read", (.int 3)), ("put", (.int 4))] (.var 3))))) (o2 (.raiseS 2)) .nil) (.cons (.set 4 (.tabF [("number", 8), ("unknown", 9), ("weigh", 10), ("plus", 11), ("call", 12), ("read", 13), ("put", 14)] (.var 3))) (o2 (.ret (.callV [8, 9, 10, 11, 12, 13, 14] (.var 4) (.cons (.var 0) (.cons (.var 1) (o1 (.op .sub (.var 2) (ci 1)))))))))))
noncomputable def Ew : Ss := (.cons (.ifS (.orE (.notE (.isi (.var 1) (.b "tuple"))) (.cm .ne (.bt .lenB (o1 (.var 1))) (.bt .lenB (o1 (.var 2))))) (o2 (.raiseS 2)) .nil) (o2 (.forZT [4] true [5] true (.var 1) (.var 2) (o2 (.ifS (.cm .ne (.call 6 (.cons (.var 0) (.cons (.var 4) (o1 (.var 3)))) []) (.var 5)) (o2 (.raiseS 2)) .nil)))))
noncomputable def Ij : Ss := (.cons (.ifS (.notE (.call 2 (o1 (.ix (.var 1) (ci 1))) [])) (o2 (.raiseS 2)) .nil) (o2 (.ret (cs "num"))))
noncomputable def ik : Ss := (.cons (.set 3 (.En 8 32 "kind" (.var 0) (o1 (.ix (.var 1) (ci 1))))) (.cons (.ifS (.cm .isN (.var 3) (.cst .non)) (o2 (.raiseS 2)) .nil) (o2 (.ret (.var 3)))))
noncomputable def gh : Ss := (.cons (.ifS (.notE (.call 2 (o1 (.ix (.var 1) (ci 1))) [])) (o2 (.raiseS 2)) .nil) (.cons (.ex (.call 7 (.cons (.var 0) (.cons (.sl 1 (.var 1) (o1 (ci 2))) (.cons (.tupE (o1 (cs "num"))) (o1 (.var 2))))) [])) (o2 (.ret (cs "num")))))
noncomputable def Gh : Ss := (.cons (.ifS (.notE (.isi (.ix (.var 1) (ci 1)) (.b "tuple"))) (o2 (.raiseS 2)) .nil) (.cons (.ex (.call 7 (.cons (.var 0) (.cons (.ix (.var 1) (ci 1)) (.cons (.op .mul (.tupE (o1 (cs "num"))) (.bt .lenB (o1 (.ix (.var 1) (ci 1))))) (o1 (.var 2))))) [])) (o2 (.ret (cs "num")))))
noncomputable def gi : Ss := (.cons (.set 3 (.En 8 34 "function" (.var 0) (o1 (.ix (.var 1) (ci 1))))) (.cons (.ifS (.cm .isN (.var 3) (.cst .non)) (o2 (.raiseS 2)) .nil) (.cons (.unp [4, 5] (.var 3)) (.cons (.ex (.call 7 (.cons (.var 0) (.cons (.ix (.var 1) (ci 2)) (.cons (.var 4) (o1 (.var 2))))) [])) (o2 (.ret (.var 5)))))))
noncomputable def Ik : Ss := (.cons (.ex (.call 7 (.cons (.var 0) (.cons (.sl 1 (.var 1) (o1 (ci 1))) (.cons (.tupE (.cons (cs "array") (o1 (cs "num")))) (o1 (.var 2))))) [])) (o2 (.ret (cs "num"))))
noncomputable def il : Ss := (.cons (.ex (.call 7 (.cons (.var 0) (.cons (.sl 1 (.var 1) (o1 (ci 1))) (.cons (.tupE (.cons (cs "array") (.cons (cs "num") (o1 (cs "num"))))) (o1 (.var 2))))) [])) (o2 (.ret (cs "array"))))
noncomputable def Rh : Ss := (.cons (.ifS (.orE (.notE (.isi (.var 0) (.b "str"))) (.notE (.chn .le .le (ci 1) (.bt .lenB (o1 (.var 0))) (ci 8)))) (o2 (.ret (.cst (.bl false)))) .nil) (o2 (.ret (.bt .allB (o1 (.comp 3 true 1 [0] [] (.var 0) .nil (.cm .inL (.var 0) (cs "abcdefghijklmnopqrstuvwxyz"))))))))
noncomputable def ri : Ss := (o2 (.ret (.andE (.isi (.var 0) (.b "tuple")) (.andE (.cm .eq (.bt .lenB (o1 (.var 0))) (ci 3)) (.call 15 (o1 (.ix (.var 0) (ci 0))) [])))))
noncomputable def Ri : Ss := (o2 (.ret (.andE (.isi (.var 0) (.b "str")) (.cm .inL (.var 0) (.tupE (.cons (cs "num") (o1 (cs "thing"))))))))
noncomputable def rj : Ss := (o2 (.ret (.andE (.isi (.var 0) (.b "list")) (.bt .allB (o1 (.comp 0 true 1 [0] [] (.var 0) .nil (.call 15 (o1 (.var 0)) [])))))))
noncomputable def Rj : Ss := (.cons (.ifS (.orE (.notE (.call 16 (o1 (.var 0)) [])) (.orE (.notE (.call 1 (o1 (.ix (.var 0) (ci 1))) [])) (.notE (.call 1 (o1 (.ix (.var 0) (ci 2))) [])))) (o2 (.ret (.cst (.bl false)))) .nil) (o2 (.ret (.chn .le .le (.ix (.var 0) (ci 1)) (.ix (.var 0) (ci 2)) (.op .add (.ix (.var 0) (ci 1)) (ci 60))))))
noncomputable def Rk : Ss := (.cons (.ifS (.orE (.notE (.call 16 (o1 (.var 0)) [])) (.orE (.notE (.isi (.ix (.var 0) (ci 1)) (.b "tuple"))) (.notE (.call 17 (o1 (.ix (.var 0) (ci 2))) [])))) (o2 (.ret (.cst (.bl false)))) .nil) (o2 (.ret (.andE (.chn .le .le (ci 1) (.bt .lenB (o1 (.ix (.var 0) (ci 1)))) (ci 3)) (.bt .allB (o1 (.comp 1 true 1 [0] [] (.ix (.var 0) (ci 1)) .nil (.call 17 (o1 (.var 0)) []))))))))
noncomputable def Rl : Ss := (.cons (.ifS (.orE (.notE (.isi (.var 0) (.b "list"))) (.notE (.bt .allB (o1 (.comp 0 true 1 [0] [] (.var 0) .nil (.call 19 (o1 (.var 0)) [])))))) (o2 (.raiseS 1)) .nil) (.cons (.set 1 (ci 1)) (.cons (.forS [2, 3, 4] false false (.var 0) (o2 (.aug 1 .mul (.op .add (.op .sub (.var 4) (.var 3)) (ci 1))))) (o2 (.ifS (.cm .gt (.var 1) (ci 3600)) (o2 (.raiseS 1)) .nil)))))
noncomputable def Rm : Ss := (o2 (.ifS (.orE (.notE (.isi (.var 0) (.b "list"))) (.notE (.bt .allB (o1 (.comp 0 true 1 [0] [] (.var 0) .nil (.call 20 (o1 (.var 0)) [])))))) (o2 (.raiseS 1)) .nil))
noncomputable def rn : Ss := (o2 (.ifS (.notE (.call 18 (o1 (.var 0)) [])) (o2 (.raiseS 1)) .nil))
noncomputable def Rn : Ss := (o2 (.ret (.comp 0 true 1 [0] [] (.var 0) .nil (.ix (.var 0) (ci 0)))))
noncomputable def ro : Ss := (o2 (.ifS (.cm .ne (.bt .lenSetB (o1 (.var 0))) (.bt .lenB (o1 (.var 0)))) (o2 (.raiseS 1)) .nil))
noncomputable def Ro : Ss := (.cons (.forS [6] true true (.tupE (.cons (.var 1) (.cons (.var 3) (o1 (.var 5))))) (o2 (.ex (.call 23 (o1 (.var 6)) [])))) (.cons (.ex (.call 21 (o1 (.var 2)) [])) (.cons (.ex (.call 22 (o1 (.var 4)) [])) (.cons (.ex (.call 25 (o1 (.op .add (.op .add (.op .add (.op .add (.var 1) (.call 24 (o1 (.var 2)) [])) (.var 3)) (.call 24 (o1 (.var 4)) [])) (.var 5))) [])) (.cons (.setf 8 (.var 0) "numbers" (.bt .listB (o1 (.var 1)))) (.cons (.setf 8 (.var 0) "wholes" (.bt .listB (o1 (.var 2)))) (.cons (.setf 8 (.var 0) "things" (.bt .listB (o1 (.var 3)))) (.cons (.setf 8 (.var 0) "functions" (.bt .listB (o1 (.var 4)))) (.cons (.setf 8 (.var 0) "arrays" (.bt .listB (o1 (.var 5)))) (.cons (.setf 8 (.var 0) "limits" (.dcomp 0 false 3 [0, 1, 2] [] (.var 2) .nil (.var 0) (.tupE (.cons (.var 1) (o1 (.var 2)))))) (.cons (.setf 8 (.var 0) "deeds" (.dcomp 0 false 3 [0, 1, 2] [] (.var 4) .nil (.var 0) (.tupE (.cons (.var 1) (o1 (.var 2)))))) (.cons (.setf 8 (.var 0) "unknowns" (.dcomp 0 true 1 [0] [] (.op .add (.var 1) (.call 24 (o1 (.var 2)) [])) .nil (.var 0) (cs "num"))) (.cons (.ex (.mt .upd (.fld 8 (.var 0) "unknowns") (o1 (.dcomp 0 true 1 [0] [] (.var 3) .nil (.var 0) (cs "thing"))))) (o2 (.ex (.mt .upd (.fld 8 (.var 0) "unknowns") (o1 (.dcomp 0 true 1 [0] [] (.var 5) .nil (.var 0) (cs "array")))))))))))))))))))
noncomputable def abu : Ss := (o2 (.ex (.call 0 (o1 (ci 0)) [])))
noncomputable def abv : Ss := (o2 (.ex (.call 0 (o1 (ci 1)) [])))
noncomputable def abw : Ss := (o2 (.ex (.call 0 (o1 (ci 2)) [])))
noncomputable def abx : Ss := (o2 (.ex (.call 0 (o1 (ci 3)) [])))
noncomputable def aby : Ss := (o2 (.ex (.call 0 (o1 (ci 4)) [])))
noncomputable def Il : Ss := (o2 (.ret (.ifE (.isi (.var 1) (.b "str")) (.mt .get (.fld 8 (.var 0) "unknowns") (o1 (.var 1))) (.cst .non))))
noncomputable def abz : Ss := (o2 (.ex (.call 0 (o1 (ci 5)) [])))
noncomputable def Im : Ss := (o2 (.ret (.ifE (.isi (.var 1) (.b "str")) (.mt .get (.fld 8 (.var 0) "deeds") (o1 (.var 1))) (.cst .non))))
noncomputable def km : Ss := (.cons (.ifS (.cm .lt (.var 1) (.bt .lenB (o1 (.var 0)))) (o2 (.ret (.ix (.var 0) (.var 1)))) .nil) (o2 (.ret (ci 0))))
noncomputable def Km : Ss := (.cons (.ifS (.cm .ge (.var 0) (.op .pow (ci 10) (ci 30))) (o2 (.ret (.op .sub (.var 0) (.op .pow (ci 10) (ci 30))))) .nil) (.cons (.set 1 (ci 0)) (.cons (.set 2 (.op .add (.op .mod (.var 0) (ci 2147483647)) (ci 48271))) (.cons (.forR [3] (o1 (ci 40)) (.cons (.set 2 (.op .mod (.op .add (.op .add (.op .mul (.var 2) (.var 2)) (.op .mul (ci 48271) (.var 2))) (.op .mul (.op .mul (ci 7) (.var 3)) (.var 3))) (ci 2147483647))) (.cons (.set 2 (.op .mod (.op .mul (.var 2) (.op .add (.op .fdiv (.var 2) (ci 1009)) (ci 69621))) (ci 2147483647))) (o2 (.set 1 (.op .add (.op .mul (.var 1) (ci 2147483647)) (.var 2))))))) (o2 (.ret (.var 1)))))))
noncomputable def Rp : Ss := (.cons (.set 0 (.lstE (.cons (.tupE (.cons (cs "f") (.cons (.tupE (o1 (cs "num"))) (o1 (cs "num"))))) (.cons (.tupE (.cons (cs "g") (.cons (.tupE (.cons (cs "num") (o1 (cs "thing")))) (o1 (cs "num"))))) (o1 (.tupE (.cons (cs "h") (.cons (.tupE (o1 (cs "thing"))) (o1 (cs "thing")))))))))) (.cons (.ex (.mt .append (.var 0) (o1 (.tupE (.cons (cs "plus") (.cons (.tupE (.cons (cs "thing") (.cons (cs "num") (o1 (cs "num"))))) (o1 (cs "thing")))))))) (o2 (.ret (.mk 8 26 (.cons (.lstE (.cons (cs "x") (.cons (cs "y") (o1 (cs "put"))))) (.cons (.lstE (.cons (.tupE (.cons (cs "k") (.cons (ci 0) (o1 (ci 5))))) (o1 (.tupE (.cons (cs "m") (.cons (.op .sub (ci 0) (ci 3)) (o1 (ci 3)))))))) (.cons (.lstE (.cons (cs "p") (.cons (cs "q") (o1 (cs "read"))))) (.cons (.var 0) (o1 (.lstE (.cons (cs "a") (o1 (cs "b"))))))))))))))
noncomputable def Kn : Ss := (.cons (.set 2 (.op .mod (.var 0) (ci 5))) (.cons (.set 0 (.op .fdiv (.var 0) (ci 5))) (.cons (.ifS (.orE (.cm .eq (.var 1) (ci 0)) (.cm .lt (.var 2) (ci 3))) (o2 (.ret (.tupE (.cons (.tupE (.cons (cs "unknown") (o1 (.ix (.lstE (.cons (cs "p") (.cons (cs "q") (o1 (cs "read"))))) (.op .mod (.var 0) (ci 3)))))) (o1 (.op .fdiv (.var 0) (ci 3))))))) .nil) (.cons (.ifS (.cm .eq (.var 2) (ci 3)) (.cons (.unp [3, 0] (.call 38 (.cons (.var 0) (o1 (.op .sub (.var 1) (ci 1)))) [])) (o2 (.ret (.tupE (.cons (.tupE (.cons (cs "call") (.cons (cs "h") (o1 (.tupE (o1 (.var 3))))))) (o1 (.var 0))))))) .nil) (.cons (.unp [4, 0] (.call 38 (.cons (.var 0) (o1 (.op .sub (.var 1) (ci 1)))) [])) (.cons (.unp [5, 0] (.call 41 (.cons (.var 0) (o1 (.op .sub (.var 1) (ci 1)))) [])) (.cons (.unp [6, 0] (.call 41 (.cons (.var 0) (o1 (.op .sub (.var 1) (ci 1)))) [])) (o2 (.ret (.tupE (.cons (.tupE (.cons (cs "call") (.cons (cs "plus") (o1 (.tupE (.cons (.var 4) (.cons (.var 5) (o1 (.var 6))))))))) (o1 (.var 0)))))))))))))
noncomputable def ko : Ss := (.cons (.set 2 (.op .mod (.var 0) (ci 3))) (.cons (.set 0 (.op .fdiv (.var 0) (ci 3))) (.cons (.ifS (.orE (.cm .eq (.var 1) (ci 0)) (.cm .eq (.var 2) (ci 0))) (o2 (.ret (.tupE (.cons (.tupE (.cons (cs "unknown") (o1 (.ix (.lstE (.cons (cs "a") (o1 (cs "b")))) (.op .mod (.var 0) (ci 2)))))) (o1 (.op .fdiv (.var 0) (ci 2))))))) .nil) (.cons (.unp [3, 0] (.call 39 (.cons (.var 0) (o1 (.op .sub (.var 1) (ci 1)))) [])) (.cons (.unp [4, 0] (.call 41 (.cons (.var 0) (o1 (.op .sub (.var 1) (ci 1)))) [])) (.cons (.unp [5, 0] (.call 41 (.cons (.var 0) (o1 (.op .sub (.var 1) (ci 1)))) [])) (o2 (.ret (.tupE (.cons (.tupE (.cons (cs "put") (.cons (.var 3) (.cons (.var 4) (o1 (.var 5)))))) (o1 (.var 0))))))))))))
noncomputable def Ko : Ss := (.cons (.set 1 (.lstE (.cons (.tupE (.cons (.op .sub (.op .mod (.var 0) (ci 19)) (ci 9)) (o1 (ci 1)))) (.cons (.tupE (.cons (.op .sub (.op .mul (ci 2) (.op .mod (.var 0) (ci 19))) (ci 19)) (o1 (ci 2)))) (.cons (.tupE (.cons (.op .add (ci 1) (.op .mul (ci 3) (.op .mod (.var 0) (ci 7)))) (o1 (ci 3)))) (o1 (.tupE (.cons (.op .mod (.var 0) (.op .pow (ci 10) (ci 9))) (o1 (ci 1)))))))))) (o2 (.ret (.ix (.var 1) (.op .mod (.var 0) (ci 4))))))
noncomputable def Io : Ss := (.cons (.set 2 (.op .mod (.var 0) (ci 8))) (.cons (.set 0 (.op .fdiv (.var 0) (ci 8))) (.cons (.ifS (.andE (.cm .eq (.var 1) (ci 0)) (.cm .gt (.var 2) (ci 3))) (o2 (.set 2 (.op .sub (.var 2) (ci 4)))) .nil) (.cons (.ifS (.cm .lt (.var 2) (ci 2)) (o2 (.ret (.tupE (.cons (.tupE (.cons (cs "unknown") (o1 (.ix (.lstE (.cons (cs "x") (.cons (cs "y") (.cons (cs "put") (.cons (cs "k") (o1 (cs "m"))))))) (.op .mod (.var 0) (ci 5)))))) (o1 (.op .fdiv (.var 0) (ci 5))))))) .nil) (.cons (.ifS (.cm .lt (.var 2) (ci 4)) (o2 (.ret (.tupE (.cons (.tupE (.cons (cs "number") (o1 (.call 40 (o1 (.op .mod (.var 0) (ci 2000))) [])))) (o1 (.op .fdiv (.var 0) (ci 2000))))))) .nil) (.cons (.ifS (.cm .eq (.var 2) (ci 4)) (.cons (.unp [3, 4] (.call 41 (.cons (.op .fdiv (.var 0) (ci 2000)) (o1 (.op .sub (.var 1) (ci 1)))) [])) (o2 (.ret (.tupE (.cons (.tupE (.cons (cs "weigh") (.cons (.call 40 (o1 (.op .mod (.var 0) (ci 2000))) []) (o1 (.var 3))))) (o1 (.var 4))))))) .nil) (.cons (.ifS (.cm .eq (.var 2) (ci 5)) (.cons (.set 5 (.lstE .nil)) (.cons (.set 4 (.op .fdiv (.var 0) (ci 4))) (.cons (.forR [6] (o1 (.op .mod (.var 0) (ci 4))) (.cons (.unp [7, 4] (.call 41 (.cons (.var 4) (o1 (.op .sub (.var 1) (ci 1)))) [])) (o2 (.ex (.mt .append (.var 5) (o1 (.var 7))))))) (o2 (.ret (.tupE (.cons (.tupE (.cons (cs "plus") (o1 (.bt .tupleB (o1 (.var 5)))))) (o1 (.var 4))))))))) .nil) (.cons (.ifS (.cm .eq (.var 2) (ci 6)) (.cons (.unp [3, 0] (.call 39 (.cons (.var 0) (o1 (.op .sub (.var 1) (ci 1)))) [])) (.cons (.unp [8, 0] (.call 41 (.cons (.var 0) (o1 (.op .sub (.var 1) (ci 1)))) [])) (o2 (.ret (.tupE (.cons (.tupE (.cons (cs "read") (.cons (.var 3) (o1 (.var 8))))) (o1 (.var 0)))))))) .nil) (.cons (.unp [9, 0] (.call 41 (.cons (.op .fdiv (.var 0) (ci 2)) (o1 (.op .sub (.var 1) (ci 1)))) [])) (.cons (.unp [10, 0] (.call 38 (.cons (.var 0) (o1 (.op .sub (.var 1) (ci 1)))) [])) (o2 (.ret (.tupE (.cons (.ix (.lstE (.cons (.tupE (.cons (cs "call") (.cons (cs "f") (o1 (.tupE (o1 (.var 9))))))) (o1 (.tupE (.cons (cs "call") (.cons (cs "g") (o1 (.tupE (.cons (.var 9) (o1 (.var 10))))))))))) (.op .mod (.var 0) (ci 2))) (o1 (.op .fdiv (.var 0) (ci 2)))))))))))))))))
noncomputable def Kp : Ss := (.cons (.tryS (o2 (.ex (.call 5 (.cons (.var 0) (o1 (.var 1))) []))) 0 2 (.cons (.set 3 (.lstE (.cons (.isi (.var 2) (.o 7)) (o1 (.isi (.var 2) (.o 1)))))) (.cons (.set 3 (.op .add (.var 3) (.lstE (.cons (.isi (.var 2) (.o 3)) (o1 (.isi (.var 2) (.o 4))))))) (.cons (.set 3 (.op .add (.var 3) (.lstE (.cons (.isi (.var 2) (.o 5)) (o1 (.isi (.var 2) (.o 6))))))) (o2 (.ret (.andE (.isi (.var 2) (.o 2)) (.andE (.isi (.var 2) (.b "ValueError")) (.cm .notIn (.cst (.bl true)) (.var 3)))))))))) (o2 (.ret (.cst (.bl false)))))
noncomputable def kq : Ss := (.cons (.set 4 (.tupE (.cons (cs "number") (o1 (.tupE (.cons (ci 1) (o1 (ci 1)))))))) (.cons (.set 5 (.lstE (.cons (.tupE .nil) (.cons (.cst .non) (.cons (ci 5) (.cons (cs "x") (.cons (.tupE (o1 (cs "x"))) (.cons (.tupE (o1 (cs "number"))) (o1 (.tupE (.cons (cs "number") (o1 (ci 1))))))))))))) (.cons (.set 5 (.op .add (.var 5) (.lstE (.cons (.tupE (.cons (cs "number") (o1 (.tupE (.cons (ci 2) (o1 (ci 4))))))) (.cons (.tupE (.cons (cs "number") (o1 (.tupE (.cons (ci 1) (o1 (ci 0))))))) (o1 (.tupE (.cons (cs "number") (.cons (ci 1) (o1 (ci 1))))))))))) (.cons (.set 5 (.op .add (.var 5) (.lstE (.cons (.tupE (.cons (cs "unknown") (o1 (cs "z")))) (.cons (.tupE (.cons (cs "unknown") (o1 (cs "f")))) (o1 (.tupE (.cons (cs "unknown") (o1 (.cst .non)))))))))) (.cons (.set 5 (.op .add (.var 5) (.lstE (.cons (.tupE (o1 (cs "unknown"))) (.cons (.tupE (.cons (cs "unknown") (o1 (.lstE (o1 (cs "x")))))) (o1 (.tupE (.cons (cs "Unknown") (o1 (cs "x")))))))))) (.cons (.set 5 (.op .add (.var 5) (.lstE (.cons (.tupE (.cons (cs "weigh") (.cons (ci 2) (o1 (.var 0))))) (.cons (.tupE (.cons (cs "weigh") (o1 (.tupE (.cons (ci 1) (o1 (ci 1))))))) (o1 (.tupE (.cons (cs "weigh") (.cons (.tupE (.cons (ci 1) (o1 (ci 1)))) (o1 (.var 1))))))))))) (.cons (.set 5 (.op .add (.var 5) (.lstE (.cons (.tupE (.cons (cs "weigh") (.cons (.tupE (.cons (ci 1) (o1 (ci 1)))) (o1 (.var 2))))) (o1 (.tupE (.cons (cs "weigh") (.cons (.var 0) (o1 (.tupE (.cons (ci 1) (o1 (ci 1))))))))))))) (.cons (.set 5 (.op .add (.var 5) (.lstE (.cons (.tupE (.cons (cs "plus") (o1 (.lstE (o1 (.var 0)))))) (.cons (.tupE (.cons (cs "plus") (o1 (.var 0)))) (o1 (.tupE (.cons (cs "plus") (o1 (.tupE (.cons (.var 0) (o1 (.var 1))))))))))))) (.cons (.set 5 (.op .add (.var 5) (.lstE (.cons (.tupE (.cons (cs "plus") (.cons (.tupE (o1 (.var 0))) (o1 (.var 0))))) (o1 (.tupE (.cons (cs "plus") (o1 (.tupE (o1 (.var 2))))))))))) (.cons (.set 5 (.op .add (.var 5) (.lstE (.cons (.tupE (.cons (cs "call") (.cons (cs "f") (o1 (.var 0))))) (o1 (.tupE (.cons (cs "call") (.cons (cs "f") (o1 (.tupE (.cons (.var 0) (o1 (.var 0))))))))))))) (.cons (.set 5 (.op .add (.var 5) (.lstE (.cons (.tupE (.cons (cs "call") (.cons (cs "f") (o1 (.tupE (o1 (.var 1))))))) (.cons (.tupE (.cons (cs "call") (.cons (cs "x") (o1 (.tupE (o1 (.var 0))))))) (o1 (.tupE (.cons (cs "call") (o1 (cs "f")))))))))) (.cons (.set 5 (.op .add (.var 5) (.lstE (.cons (.tupE (.cons (cs "call") (.cons (cs "g") (o1 (.tupE (.cons (.var 1) (o1 (.var 0)))))))) (o1 (.tupE (.cons (cs "call") (.cons (cs "g") (o1 (.tupE (o1 (.var 0)))))))))))) (.cons (.set 5 (.op .add (.var 5) (.lstE (.cons (.tupE (.cons (cs "call") (.cons (cs "h") (o1 (.tupE (o1 (.var 0))))))) (.cons (.tupE (.cons (cs "call") (.cons (cs "zz") (o1 (.tupE .nil))))) (o1 (.tupE (.cons (cs "call") (.cons (.cst .non) (o1 (.tupE (o1 (.var 0))))))))))))) (.cons (.set 5 (.op .add (.var 5) (.lstE (.cons (.tupE (.cons (cs "read") (.cons (.var 0) (o1 (.var 0))))) (.cons (.tupE (.cons (cs "read") (.cons (.var 2) (o1 (.var 1))))) (o1 (.tupE (.cons (cs "read") (o1 (.var 2)))))))))) (.cons (.set 5 (.op .add (.var 5) (.lstE (.cons (.tupE (.cons (cs "read") (.cons (.var 2) (.cons (.var 0) (o1 (.var 0)))))) (o1 (.tupE (.cons (cs "read") (.cons (cs "a") (o1 (.var 0)))))))))) (.cons (.set 5 (.op .add (.var 5) (.lstE (.cons (.tupE (.cons (cs "put") (.cons (.var 2) (o1 (.var 0))))) (.cons (.tupE (.cons (cs "put") (.cons (.var 2) (.cons (.var 1) (o1 (.var 0)))))) (o1 (.tupE (.cons (cs "put") (.cons (.var 0) (.cons (.var 0) (o1 (.var 0)))))))))))) (.cons (.set 5 (.op .add (.var 5) (.lstE (.cons (.tupE (.cons (cs "put") (.cons (.var 2) (.cons (.var 0) (o1 (.var 2)))))) (o1 (.lstE (.cons (cs "number") (o1 (.tupE (.cons (ci 1) (o1 (ci 1)))))))))))) (o2 (.ret (.ix (.op .add (.var 5) (.lstE (.cons (.tupE (.cons (cs "call") (.cons (cs "f") (o1 (.lstE (o1 (.var 4))))))) (.cons (.tupE (.cons (cs "number") (o1 (.tupE (.cons (.cst (.bl true)) (o1 (ci 1))))))) (.cons (.tupE (.cons (.cst .non) (o1 (cs "x")))) (o1 (.tupE (o1 (.tupE (.cons (cs "unknown") (o1 (cs "x")))))))))))) (.op .mod (.var 3) (ci 50))))))))))))))))))))))
noncomputable def Kq : Ss := (.cons (.ifS (.cm .eq (.op .mod (.var 3) (ci 7)) (ci 0)) (o2 (.ret (.tupE (.cons (cs "weigh") (.cons (.tupE (.cons (ci 2) (o1 (ci 1)))) (o1 (.var 0))))))) .nil) (.cons (.ifS (.cm .eq (.op .mod (.var 3) (ci 7)) (ci 1)) (o2 (.ret (.tupE (.cons (cs "plus") (o1 (.tupE (.cons (.var 1) (o1 (.var 0))))))))) .nil) (.cons (.ifS (.cm .eq (.op .mod (.var 3) (ci 7)) (ci 2)) (o2 (.ret (.tupE (.cons (cs "call") (.cons (cs "f") (o1 (.tupE (o1 (.var 0))))))))) .nil) (.cons (.ifS (.cm .eq (.op .mod (.var 3) (ci 7)) (ci 3)) (o2 (.ret (.tupE (.cons (cs "read") (.cons (.var 2) (o1 (.var 0))))))) .nil) (.cons (.ifS (.cm .eq (.op .mod (.var 3) (ci 7)) (ci 4)) (o2 (.ret (.tupE (.cons (cs "put") (.cons (.var 2) (.cons (.var 0) (o1 (.var 1)))))))) .nil) (.cons (.ifS (.cm .eq (.op .mod (.var 3) (ci 7)) (ci 5)) (o2 (.ret (.tupE (.cons (cs "read") (.cons (.tupE (.cons (cs "put") (.cons (.var 2) (.cons (.var 1) (o1 (.var 0)))))) (o1 (.var 1))))))) .nil) (o2 (.ret (.var 0)))))))))
noncomputable def kr : Ss := (.cons (.forR [3] (o1 (.var 2)) (o2 (.ifS (.cm .eq (.var 0) (ci 0)) (o2 (.set 1 (.tupE (.cons (cs "weigh") (.cons (.tupE (.cons (ci 1) (o1 (ci 2)))) (o1 (.var 1))))))) (o2 (.ifS (.cm .eq (.var 0) (ci 1)) (o2 (.set 1 (.tupE (.cons (cs "plus") (o1 (.tupE (.cons (.tupE (.cons (cs "number") (o1 (.tupE (.cons (ci 1) (o1 (ci 1))))))) (o1 (.var 1))))))))) (o2 (.ifS (.cm .eq (.var 0) (ci 2)) (o2 (.set 1 (.tupE (.cons (cs "call") (.cons (cs "f") (o1 (.tupE (o1 (.var 1))))))))) (o2 (.set 1 (.tupE (.cons (cs "read") (.cons (.tupE (.cons (cs "unknown") (o1 (cs "a")))) (o1 (.var 1)))))))))))))) (o2 (.ret (.var 1))))
noncomputable def Kr : Ss := (.cons (.set 2 (.op .mod (.var 1) (ci 4))) (.cons (.set 3 (.ix (.lstE (.cons (.tupE (.cons (cs "number") (o1 (.tupE (.cons (ci 1) (o1 (ci 3))))))) (o1 (.tupE (.cons (cs "unknown") (o1 (cs "k"))))))) (.op .mod (.op .fdiv (.var 1) (ci 4)) (ci 2)))) (.cons (.ifS (.cm .ne (.call 5 (.cons (.var 0) (o1 (.call 45 (.cons (.var 2) (.cons (.var 3) (o1 (ci 11)))) []))) []) (cs "num")) (o2 (.ret (.cst (.bl false)))) .nil) (.cons (.ifS (.notE (.call 42 (.cons (.var 0) (o1 (.call 45 (.cons (.var 2) (.cons (.var 3) (o1 (ci 12)))) []))) [])) (o2 (.ret (.cst (.bl false)))) .nil) (o2 (.ret (.call 42 (.cons (.var 0) (o1 (.call 45 (.cons (.var 2) (.cons (.var 3) (o1 (.op .add (ci 13) (.op .mod (.op .fdiv (.var 1) (ci 8)) (ci 3000)))))) []))) [])))))))
noncomputable def ip : Ss := (.cons (.set 1 (.call 37 .nil [])) (.cons (.set 2 (.call 36 (o1 (.call 35 (.cons (.var 0) (o1 (ci 0))) [])) [])) (.cons (.unp [3, 2] (.call 41 (.cons (.var 2) (o1 (.op .add (ci 1) (.op .mod (.call 35 (.cons (.var 0) (o1 (ci 1))) []) (ci 3))))) [])) (.cons (.unp [4, 2] (.call 38 (.cons (.var 2) (o1 (.op .add (ci 1) (.op .mod (.op .fdiv (.call 35 (.cons (.var 0) (o1 (ci 1))) []) (ci 3)) (ci 2))))) [])) (.cons (.unp [5, 2] (.call 39 (.cons (.var 2) (o1 (.op .add (ci 1) (.op .mod (.op .fdiv (.call 35 (.cons (.var 0) (o1 (ci 1))) []) (ci 6)) (ci 2))))) [])) (.cons (.forR [6] (o1 (ci 2)) (o2 (.ifS (.orE (.cm .ne (.call 5 (.cons (.var 1) (o1 (.var 3))) []) (cs "num")) (.orE (.cm .ne (.call 5 (.cons (.var 1) (o1 (.var 4))) []) (cs "thing")) (.cm .ne (.call 5 (.cons (.var 1) (o1 (.var 5))) []) (cs "array")))) (o2 (.ret (.cst (.bl false)))) .nil))) (.cons (.forS [7] true false (.op .add (.sl 3 (.var 0) (.cons (ci 2) (o1 (ci 6)))) (.lstE (o1 (.call 35 (.cons (.var 0) (o1 (ci 1))) [])))) (.cons (.set 8 (.call 43 (.cons (.var 3) (.cons (.var 4) (.cons (.var 5) (o1 (.var 7))))) [])) (.cons (.ifS (.notE (.call 42 (.cons (.var 1) (o1 (.var 8))) [])) (o2 (.ret (.cst (.bl false)))) .nil) (.cons (.set 8 (.call 44 (.cons (.var 8) (.cons (.var 3) (.cons (.var 5) (o1 (.op .fdiv (.var 7) (ci 50)))))) [])) (o2 (.ifS (.notE (.call 42 (.cons (.var 1) (o1 (.call 44 (.cons (.var 8) (.cons (.var 3) (.cons (.var 5) (o1 (.op .fdiv (.var 7) (ci 350)))))) []))) [])) (o2 (.ret (.cst (.bl false)))) .nil)))))) (o2 (.ret (.andE (.cm .eq (.call 5 (.cons (.var 1) (o1 (.var 3))) []) (cs "num")) (.call 46 (.cons (.var 1) (o1 (.call 35 (.cons (.var 0) (o1 (ci 7))) []))) [])))))))))))
noncomputable def fns : List Fn := [⟨1, 1, abt⟩, ⟨1, 1, rh⟩, ⟨1, 3, Kk⟩, ⟨2, 2, kl⟩, ⟨1, 1, Kl⟩, ⟨2, 2, Ii⟩, ⟨3, 5, Eu⟩, ⟨4, 6, Ew⟩, ⟨3, 3, Ij⟩, ⟨3, 4, ik⟩, ⟨3, 3, gh⟩, ⟨3, 3, Gh⟩, ⟨3, 6, gi⟩, ⟨3, 3, Ik⟩, ⟨3, 3, il⟩, ⟨1, 1, Rh⟩, ⟨1, 1, ri⟩, ⟨1, 1, Ri⟩, ⟨1, 1, rj⟩, ⟨1, 1, Rj⟩, ⟨1, 1, Rk⟩, ⟨1, 5, Rl⟩, ⟨1, 1, Rm⟩, ⟨1, 1, rn⟩, ⟨1, 1, Rn⟩, ⟨1, 1, ro⟩, ⟨6, 7, Ro⟩, ⟨1, 1, abu⟩, ⟨1, 1, abv⟩, ⟨1, 1, abw⟩, ⟨1, 1, abx⟩, ⟨1, 1, aby⟩, ⟨2, 2, Il⟩, ⟨2, 2, abz⟩, ⟨2, 2, Im⟩, ⟨2, 2, km⟩, ⟨1, 4, Km⟩, ⟨0, 1, Rp⟩, ⟨2, 7, Kn⟩, ⟨2, 6, ko⟩, ⟨1, 2, Ko⟩, ⟨2, 11, Io⟩, ⟨2, 4, Kp⟩, ⟨4, 6, kq⟩, ⟨4, 4, Kq⟩, ⟨3, 4, kr⟩, ⟨2, 4, Kr⟩, ⟨1, 9, ip⟩]
noncomputable def tab (n : Nat) (t : Ty) : Option Bool := match n with
 | 1 => (match t with | .o j => some (decide (j ∈ ([1, 0] : List Nat))) | .b x => if x = "ValueError" then some true else none)
 | 2 => (match t with | .o j => some (decide (j ∈ ([2, 0] : List Nat))) | .b x => if x = "ValueError" then some true else none)
 | _ => none
theorem cx {n : Nat} {x : String} (h : x ≠ "ValueError") : tab n (.b x) = none := by
 unfold tab
 split
 · simp [h]
 · simp [h]
 · rfl
section
variable (K : PySem.W.Frag) (mg : Str → Option Value) (fd : Nat → FuncData) (cls : CW)
structure Txt : Prop where
 f_1 : FunD K "is_whole" "is_whole" Gw (cls.fn 1) (fd 1)
 m_1 : mg "is_whole" = some (.ref (cls.fn 1))
 b_1 : Binds K (fd 1) ["thing"] []
 f_2 : FunD K "is_fraction" "is_fraction" Fj (cls.fn 2) (fd 2)
 m_2 : mg "is_fraction" = some (.ref (cls.fn 2))
 b_2 : Binds K (fd 2) ["thing"] []
 f_3 : FunD K "common_divisor" "common_divisor" gd (cls.fn 3) (fd 3)
 m_3 : mg "common_divisor" = some (.ref (cls.fn 3))
 b_3 : Binds K (fd 3) ["one", "other"] []
 f_4 : FunD K "word_of" "word_of" gx (cls.fn 4) (fd 4)
 m_4 : mg "word_of" = some (.ref (cls.fn 4))
 b_4 : Binds K (fd 4) ["thing"] []
 f_5 : FunD K "kind_of" "kind_of" Gd (cls.fn 5) (fd 5)
 m_5 : mg "kind_of" = some (.ref (cls.fn 5))
 b_5 : Binds K (fd 5) ["names", "term"] []
 f_6 : FunD K "kind_within" "kind_within" Dz (cls.fn 6) (fd 6)
 m_6 : mg "kind_within" = some (.ref (cls.fn 6))
 b_6 : Binds K (fd 6) ["names", "term", "room"] []
 f_7 : FunD K "check_kinds" "check_kinds" dt (cls.fn 7) (fd 7)
 m_7 : mg "check_kinds" = some (.ref (cls.fn 7))
 b_7 : Binds K (fd 7) ["names", "terms", "kinds", "room"] []
 f_8 : FunD K "kind_of_number" "kind_of_number" Gx (cls.fn 8) (fd 8)
 m_8 : mg "kind_of_number" = some (.ref (cls.fn 8))
 b_8 : Binds K (fd 8) ["names", "term", "room"] []
 f_9 : FunD K "kind_of_unknown" "kind_of_unknown" fk (cls.fn 9) (fd 9)
 m_9 : mg "kind_of_unknown" = some (.ref (cls.fn 9))
 b_9 : Binds K (fd 9) ["names", "term", "room"] []
 f_10 : FunD K "kind_of_weigh" "kind_of_weigh" fm (cls.fn 10) (fd 10)
 m_10 : mg "kind_of_weigh" = some (.ref (cls.fn 10))
 b_10 : Binds K (fd 10) ["names", "term", "room"] []
 f_11 : FunD K "kind_of_plus" "kind_of_plus" Fm (cls.fn 11) (fd 11)
 m_11 : mg "kind_of_plus" = some (.ref (cls.fn 11))
 b_11 : Binds K (fd 11) ["names", "term", "room"] []
 f_12 : FunD K "kind_of_call" "kind_of_call" Dt (cls.fn 12) (fd 12)
 m_12 : mg "kind_of_call" = some (.ref (cls.fn 12))
 b_12 : Binds K (fd 12) ["names", "term", "room"] []
 f_13 : FunD K "kind_of_read" "kind_of_read" fo (cls.fn 13) (fd 13)
 m_13 : mg "kind_of_read" = some (.ref (cls.fn 13))
 b_13 : Binds K (fd 13) ["names", "term", "room"] []
 f_14 : FunD K "kind_of_put" "kind_of_put" Fo (cls.fn 14) (fd 14)
 m_14 : mg "kind_of_put" = some (.ref (cls.fn 14))
 b_14 : Binds K (fd 14) ["names", "term", "room"] []
 f_15 : FunD K "is_name" "is_name" gy (cls.fn 15) (fd 15)
 m_15 : mg "is_name" = some (.ref (cls.fn 15))
 b_15 : Binds K (fd 15) ["thing"] []
 f_16 : FunD K "is_row" "is_row" Gy (cls.fn 16) (fd 16)
 m_16 : mg "is_row" = some (.ref (cls.fn 16))
 b_16 : Binds K (fd 16) ["thing"] []
 f_17 : FunD K "is_kind" "is_kind" gz (cls.fn 17) (fd 17)
 m_17 : mg "is_kind" = some (.ref (cls.fn 17))
 b_17 : Binds K (fd 17) ["thing"] []
 f_18 : FunD K "is_list_of_names" "is_list_of_names" Gz (cls.fn 18) (fd 18)
 m_18 : mg "is_list_of_names" = some (.ref (cls.fn 18))
 b_18 : Binds K (fd 18) ["thing"] []
 f_19 : FunD K "is_bounded" "is_bounded" Ha (cls.fn 19) (fd 19)
 m_19 : mg "is_bounded" = some (.ref (cls.fn 19))
 b_19 : Binds K (fd 19) ["thing"] []
 f_20 : FunD K "is_function" "is_function" Hb (cls.fn 20) (fd 20)
 m_20 : mg "is_function" = some (.ref (cls.fn 20))
 b_20 : Binds K (fd 20) ["thing"] []
 f_21 : FunD K "check_wholes" "check_wholes" Ea (cls.fn 21) (fd 21)
 m_21 : mg "check_wholes" = some (.ref (cls.fn 21))
 b_21 : Binds K (fd 21) ["wholes"] []
 f_22 : FunD K "check_functions" "check_functions" Hc (cls.fn 22) (fd 22)
 m_22 : mg "check_functions" = some (.ref (cls.fn 22))
 b_22 : Binds K (fd 22) ["functions"] []
 f_23 : FunD K "check_names" "check_names" Hd (cls.fn 23) (fd 23)
 m_23 : mg "check_names" = some (.ref (cls.fn 23))
 b_23 : Binds K (fd 23) ["names"] []
 f_24 : FunD K "first_parts" "first_parts" He (cls.fn 24) (fd 24)
 m_24 : mg "first_parts" = some (.ref (cls.fn 24))
 b_24 : Binds K (fd 24) ["rows"] []
 f_25 : FunD K "check_unlike" "check_unlike" Hf (cls.fn 25) (fd 25)
 m_25 : mg "check_unlike" = some (.ref (cls.fn 25))
 b_25 : Binds K (fd 25) ["names"] []
 f_26 : FunD K "__init__" "Names.__init__" Dk (cls.fn 26) (fd 26)
 b_26 : Binds K (fd 26) ["self", "numbers", "wholes", "things", "functions", "arrays"] []
 f_32 : FunD K "kind" "Names.kind" Ge (cls.fn 32) (fd 32)
 b_32 : Binds K (fd 32) ["self", "name"] []
 f_34 : FunD K "function" "Names.function" gf (cls.fn 34) (fd 34)
 b_34 : Binds K (fd 34) ["self", "name"] []
 f_35 : FunD K "_law_cell_at" "_law_cell_at" Gf (cls.fn 35) (fd 35)
 m_35 : mg "_law_cell_at" = some (.ref (cls.fn 35))
 b_35 : Binds K (fd 35) ["_law_script", "_law_k"] []
 f_36 : FunD K "_law_digits" "_law_digits" Eo (cls.fn 36) (fd 36)
 m_36 : mg "_law_digits" = some (.ref (cls.fn 36))
 b_36 : Binds K (fd 36) ["_law_cell"] []
 f_37 : FunD K "_law_house" "_law_house" Hg (cls.fn 37) (fd 37)
 m_37 : mg "_law_house" = some (.ref (cls.fn 37))
 b_37 : Binds K (fd 37) [] []
 f_38 : FunD K "_law_thing" "_law_thing" Dl (cls.fn 38) (fd 38)
 m_38 : mg "_law_thing" = some (.ref (cls.fn 38))
 b_38 : Binds K (fd 38) ["_law_number", "_law_deep_here"] []
 f_39 : FunD K "_law_array" "_law_array" du (cls.fn 39) (fd 39)
 m_39 : mg "_law_array" = some (.ref (cls.fn 39))
 b_39 : Binds K (fd 39) ["_law_number", "_law_deep_here"] []
 f_40 : FunD K "_law_fraction" "_law_fraction" Gg (cls.fn 40) (fd 40)
 m_40 : mg "_law_fraction" = some (.ref (cls.fn 40))
 b_40 : Binds K (fd 40) ["_law_number"] []
 f_41 : FunD K "_law_num" "_law_num" Cs (cls.fn 41) (fd 41)
 m_41 : mg "_law_num" = some (.ref (cls.fn 41))
 b_41 : Binds K (fd 41) ["_law_number", "_law_deep_here"] []
 f_42 : FunD K "_law_refused" "_law_refused" Ep (cls.fn 42) (fd 42)
 m_42 : mg "_law_refused" = some (.ref (cls.fn 42))
 b_42 : Binds K (fd 42) ["_law_house_here", "_law_term"] []
 f_43 : FunD K "_law_wrong" "_law_wrong" Du (cls.fn 43) (fd 43)
 m_43 : mg "_law_wrong" = some (.ref (cls.fn 43))
 b_43 : Binds K (fd 43) ["_law_num_here", "_law_thing_here", "_law_array_here", "_law_cell"] []
 f_44 : FunD K "_law_round" "_law_round" er (cls.fn 44) (fd 44)
 m_44 : mg "_law_round" = some (.ref (cls.fn 44))
 b_44 : Binds K (fd 44) ["_law_wrong_here", "_law_num_here", "_law_array_here", "_law_cell"] []
 f_45 : FunD K "_law_deep" "_law_deep" Et (cls.fn 45) (fd 45)
 m_45 : mg "_law_deep" = some (.ref (cls.fn 45))
 b_45 : Binds K (fd 45) ["_law_word", "_law_inner", "_law_many"] []
 f_46 : FunD K "_law_depth_right" "_law_depth_right" eu (cls.fn 46) (fd 46)
 m_46 : mg "_law_depth_right" = some (.ref (cls.fn 46))
 b_46 : Binds K (fd 46) ["_law_house_here", "_law_cell"] []
 f_47 : FunD K "law" "law" Cw (cls.fn 47) (fd 47)
 m_47 : mg "law" = some (.ref (cls.fn 47))
 b_47 : Binds K (fd 47) ["_law_script"] []
 gc_DEEPEST : ∃ u, mg "DEEPEST" = some u ∧ RelV ((.int 12) : L2.V) u
 gc_LETTERS : ∃ u, mg "LETTERS" = some u ∧ RelV ((.str (Str.ofString "abcdefghijklmnopqrstuvwxyz")) : L2.V) u
 gc_LONGEST_NAME : ∃ u, mg "LONGEST_NAME" = some u ∧ RelV ((.int 8) : L2.V) u
 gc_MOST_KINDS : ∃ u, mg "MOST_KINDS" = some u ∧ RelV ((.int 3) : L2.V) u
 gc_MOST_VALUES : ∃ u, mg "MOST_VALUES" = some u ∧ RelV ((.int 3600) : L2.V) u
 gc_WIDEST_BOUNDS : ∃ u, mg "WIDEST_BOUNDS" = some u ∧ RelV ((.int 60) : L2.V) u
 tb_DEEDS : TabAt K mg "DEEDS" [((Str.ofString "number"), .ref (cls.fn 8)), ((Str.ofString "unknown"), .ref (cls.fn 9)), ((Str.ofString "weigh"), .ref (cls.fn 10)), ((Str.ofString "plus"), .ref (cls.fn 11)), ((Str.ofString "call"), .ref (cls.fn 12)), ((Str.ofString "read"), .ref (cls.fn 13)), ((Str.ofString "put"), .ref (cls.fn 14))]
 tb_LENGTHS : TabAt K mg "LENGTHS" [((Str.ofString "number"), (.int 2)), ((Str.ofString "unknown"), (.int 2)), ((Str.ofString "weigh"), (.int 3)), ((Str.ofString "plus"), (.int 2)), ((Str.ofString "call"), (.int 3)), ((Str.ofString "read"), (.int 3)), ((Str.ofString "put"), (.int 4))]
 cl_Names : Cls K (cls 8)
 na_Names_arrays : cu K (cls 8) "arrays"
 na_Names_deeds : cu K (cls 8) "deeds"
 na_Names_functions : cu K (cls 8) "functions"
 na_Names_limits : cu K (cls 8) "limits"
 na_Names_numbers : cu K (cls 8) "numbers"
 na_Names_things : cu K (cls 8) "things"
 na_Names_unknowns : cu K (cls 8) "unknowns"
 na_Names_wholes : cu K (cls 8) "wholes"
 me_Names_function : Meth K (cls 8) "function" (cls.fn 34)
 me_Names_kind : Meth K (cls 8) "kind" (cls.fn 32)
 k_Names : Mk K (cls 8) (cls.fn 26)
 mc_BadNames : mg "BadNames" = some (.ref (cls 1))
 mc_BadStatement : mg "BadStatement" = some (.ref (cls 3))
 mc_BadTerm : mg "BadTerm" = some (.ref (cls 2))
 mc_Names : mg "Names" = some (.ref (cls 8))
 mc_NoNumber : mg "NoNumber" = some (.ref (cls 7))
 mc_NoRow : mg "NoRow" = some (.ref (cls 6))
 mc_NoText : mg "NoText" = some (.ref (cls 5))
 mc_NotTold : mg "NotTold" = some (.ref (cls 4))
 mc_PartError : mg "PartError" = some (.ref (cls 0))
 nc_BadNames : PySem.W.nsIn K mainGlobals "BadNames" = some (some (.ref (cls 1)))
 xc_BadNames : PySem.W.excIn K (cls 1) [.type "ValueError", .type "Exception", .type "BaseException", .type "object"] "ValueError.__new__" = true
 nc_BadTerm : PySem.W.nsIn K mainGlobals "BadTerm" = some (some (.ref (cls 2)))
 xc_BadTerm : PySem.W.excIn K (cls 2) [.type "ValueError", .type "Exception", .type "BaseException", .type "object"] "ValueError.__new__" = true
 o_BadNames : ∀ n k, tab n (.o 1) = some k → ExcC K (cls n) ∧ PySem.W.kitOne K (.ref (cls n)) (.ref (cls 1)) = some k
 o_BadStatement : ∀ n k, tab n (.o 3) = some k → ExcC K (cls n) ∧ PySem.W.kitOne K (.ref (cls n)) (.ref (cls 3)) = some k
 o_BadTerm : ∀ n k, tab n (.o 2) = some k → ExcC K (cls n) ∧ PySem.W.kitOne K (.ref (cls n)) (.ref (cls 2)) = some k
 o_NoNumber : ∀ n k, tab n (.o 7) = some k → ExcC K (cls n) ∧ PySem.W.kitOne K (.ref (cls n)) (.ref (cls 7)) = some k
 o_NoRow : ∀ n k, tab n (.o 6) = some k → ExcC K (cls n) ∧ PySem.W.kitOne K (.ref (cls n)) (.ref (cls 6)) = some k
 o_NoText : ∀ n k, tab n (.o 5) = some k → ExcC K (cls n) ∧ PySem.W.kitOne K (.ref (cls n)) (.ref (cls 5)) = some k
 o_NotTold : ∀ n k, tab n (.o 4) = some k → ExcC K (cls n) ∧ PySem.W.kitOne K (.ref (cls n)) (.ref (cls 4)) = some k
 o_ValueError : ∀ n k, tab n (.b "ValueError") = some k → ExcC K (cls n) ∧ PySem.W.kitOne K (.ref (cls n)) (.type "ValueError") = some k
 x_PartError : ∀ n, tab n (.o 0) = some true → PySem.W.exmOne K (.ref (cls n)) (.ref (cls 0)) = some true
 z_ValueError : mg "ValueError" = none
 z_abs : mg "abs" = none
 z_all : mg "all" = none
 z_bool : mg "bool" = none
 z_int : mg "int" = none
 z_isinstance : mg "isinstance" = none
 z_len : mg "len" = none
 z_list : mg "list" = none
 z_range : mg "range" = none
 z_set : mg "set" = none
 z_str : mg "str" = none
 z_tuple : mg "tuple" = none
 z_zip : mg "zip" = none
end
section
variable {Pr : Program} {w : World} {K : PySem.W.Frag} {mg : Str → Option Value} {base : Heap} {fd : Nat → FuncData} {cls : CW} {FF : Nat}
abbrev Fk (Pr : Program) (w : World) (K : PySem.W.Frag) (mg : Str → Option Value) (base : Heap) (fd : Nat → FuncData) (cls : CW) (FF n i : Nat) (ps : List Str) (k : Nat) : Prop := FnOk Pr w K mg base (CXd Pr w) (2 * n) (cls.fn i) (fd i) ps (spD K cls k (Bw tab fns FF n i))
structure IH (F : Nat → List Str → Nat → Prop) : Prop where
 i_1 : F 1 ["thing"] 1
 i_2 : F 2 ["thing"] 1
 i_3 : F 3 ["one", "other"] 2
 i_4 : F 4 ["thing"] 1
 i_5 : F 5 ["names", "term"] 2
 i_6 : F 6 ["names", "term", "room"] 3
 i_7 : F 7 ["names", "terms", "kinds", "room"] 4
 i_8 : F 8 ["names", "term", "room"] 3
 i_9 : F 9 ["names", "term", "room"] 3
 i_10 : F 10 ["names", "term", "room"] 3
 i_11 : F 11 ["names", "term", "room"] 3
 i_12 : F 12 ["names", "term", "room"] 3
 i_13 : F 13 ["names", "term", "room"] 3
 i_14 : F 14 ["names", "term", "room"] 3
 i_15 : F 15 ["thing"] 1
 i_16 : F 16 ["thing"] 1
 i_17 : F 17 ["thing"] 1
 i_18 : F 18 ["thing"] 1
 i_19 : F 19 ["thing"] 1
 i_20 : F 20 ["thing"] 1
 i_21 : F 21 ["wholes"] 1
 i_22 : F 22 ["functions"] 1
 i_23 : F 23 ["names"] 1
 i_24 : F 24 ["rows"] 1
 i_25 : F 25 ["names"] 1
 i_26 : F 26 ["self", "numbers", "wholes", "things", "functions", "arrays"] 6
 i_32 : F 32 ["self", "name"] 2
 i_34 : F 34 ["self", "name"] 2
 i_35 : F 35 ["_law_script", "_law_k"] 2
 i_36 : F 36 ["_law_cell"] 1
 i_37 : F 37 [] 0
 i_38 : F 38 ["_law_number", "_law_deep_here"] 2
 i_39 : F 39 ["_law_number", "_law_deep_here"] 2
 i_40 : F 40 ["_law_number"] 1
 i_41 : F 41 ["_law_number", "_law_deep_here"] 2
 i_42 : F 42 ["_law_house_here", "_law_term"] 2
 i_43 : F 43 ["_law_num_here", "_law_thing_here", "_law_array_here", "_law_cell"] 4
 i_44 : F 44 ["_law_wrong_here", "_law_num_here", "_law_array_here", "_law_cell"] 4
 i_45 : F 45 ["_law_word", "_law_inner", "_law_many"] 3
 i_46 : F 46 ["_law_house_here", "_law_cell"] 2
 i_47 : F 47 ["_law_script"] 1
theorem aca {n : Nat} {g : G} {X : Cx} (T : Txt K mg fd cls) (ih : IH (Fk Pr w K mg base fd cls FF n)) (h1 : X.prog = Pr := by rfl) (h2 : X.w = w := by rfl) (h3 : X.K = K := by rfl) (h4 : X.mg = mg := by rfl) (h5 : X.base = base := by rfl) (h6 : g.K = K := by rfl) (h7 : g.cls = cls := by rfl) (h8 : g.call = Bw tab fns FF n := by rfl) : ∀ i ∈ ([8, 9, 10, 11, 12, 13, 14] : List Nat), FnV g X (2 * n) 3 i := by
 obtain ⟨⟩ := h1
 subst h2 h3 h4 h5 h7
 intro i hi
 simp only [List.mem_cons, List.not_mem_nil, or_false] at hi
 rcases hi with rfl | rfl | rfl | rfl | rfl | rfl | rfl
 · exact ⟨⟨_, _, by rw [h6, h8]; exact ih.i_8, T.b_8⟩, T.f_8.kp, by rw [h8]; exact Ai rfl⟩
 · exact ⟨⟨_, _, by rw [h6, h8]; exact ih.i_9, T.b_9⟩, T.f_9.kp, by rw [h8]; exact Ai rfl⟩
 · exact ⟨⟨_, _, by rw [h6, h8]; exact ih.i_10, T.b_10⟩, T.f_10.kp, by rw [h8]; exact Ai rfl⟩
 · exact ⟨⟨_, _, by rw [h6, h8]; exact ih.i_11, T.b_11⟩, T.f_11.kp, by rw [h8]; exact Ai rfl⟩
 · exact ⟨⟨_, _, by rw [h6, h8]; exact ih.i_12, T.b_12⟩, T.f_12.kp, by rw [h8]; exact Ai rfl⟩
 · exact ⟨⟨_, _, by rw [h6, h8]; exact ih.i_13, T.b_13⟩, T.f_13.kp, by rw [h8]; exact Ai rfl⟩
 · exact ⟨⟨_, _, by rw [h6, h8]; exact ih.i_14, T.b_14⟩, T.f_14.kp, by rw [h8]; exact Ai rfl⟩
theorem acb : FnScope ["thing"] ["thing"] (au Gw) := ⟨rfl, rfl, rfl, by decide +kernel, rfl, by decide +kernel, by decide +kernel⟩
theorem rq : Lv Gw "thing" := by decide +kernel
theorem Mv : FnScope ["thing", "top", "bottom"] ["thing"] (au Fj) := ⟨rfl, rfl, rfl, by decide +kernel, rfl, by decide +kernel, by decide +kernel⟩
theorem mw : Lv Fj "thing" := by decide +kernel
theorem Mw : Lv Fj "top" := by decide +kernel
theorem Ks : Lv Fj "bottom" := by decide +kernel
theorem mx : FnScope ["one", "other"] ["one", "other"] (au gd) := ⟨rfl, rfl, rfl, by decide +kernel, rfl, by decide +kernel, by decide +kernel⟩
theorem ji : Lv gd "one" := by decide +kernel
theorem Ip : Lv gd "other" := by decide +kernel
theorem acd : FnScope ["thing"] ["thing"] (au gx) := ⟨rfl, rfl, rfl, by decide +kernel, rfl, by decide +kernel, by decide +kernel⟩
theorem ku : Lv gx "thing" := by decide +kernel
theorem ace : FnScope ["names", "term"] ["names", "term"] (au Gd) := ⟨rfl, rfl, rfl, by decide +kernel, rfl, by decide +kernel, by decide +kernel⟩
theorem acf : Lv Gd "names" := by decide +kernel
theorem acg : Lv Gd "term" := by decide +kernel
theorem Mx : FnScope ["names", "term", "room", "word", "deed"] ["names", "term", "room"] (au Dz) := ⟨rfl, rfl, rfl, by decide +kernel, rfl, by decide +kernel, by decide +kernel⟩
theorem ach : Lv Dz "names" := by decide +kernel
theorem my : Lv Dz "term" := by decide +kernel
theorem Rq : Lv Dz "room" := by decide +kernel
theorem Ku : Lv Dz "word" := by decide +kernel
theorem Rr : Lv Dz "deed" := by decide +kernel
theorem mz : FnScope ["names", "terms", "kinds", "room", "term", "kind"] ["names", "terms", "kinds", "room"] (au dt) := ⟨rfl, rfl, rfl, by decide +kernel, rfl, by decide +kernel, by decide +kernel⟩
theorem aci : Lv dt "names" := by decide +kernel
theorem Mz : Lv dt "terms" := by decide +kernel
theorem Rt : Lv dt "kinds" := by decide +kernel
theorem acj : Lv dt "room" := by decide +kernel
theorem Ru : Lv dt "term" := by decide +kernel
theorem Rv : Lv dt "kind" := by decide +kernel
theorem ack : FnScope ["names", "term", "room"] ["names", "term", "room"] (au Gx) := ⟨rfl, rfl, rfl, by decide +kernel, rfl, by decide +kernel, by decide +kernel⟩
theorem acm : Lv Gx "term" := by decide +kernel
theorem Rw : FnScope ["names", "term", "room", "kind"] ["names", "term", "room"] (au fk) := ⟨rfl, rfl, rfl, by decide +kernel, rfl, by decide +kernel, by decide +kernel⟩
theorem acn : Lv fk "names" := by decide +kernel
theorem aco : Lv fk "term" := by decide +kernel
theorem Na : Lv fk "kind" := by decide +kernel
theorem acp : FnScope ["names", "term", "room"] ["names", "term", "room"] (au fm) := ⟨rfl, rfl, rfl, by decide +kernel, rfl, by decide +kernel, by decide +kernel⟩
theorem acq : Lv fm "names" := by decide +kernel
theorem Rx : Lv fm "term" := by decide +kernel
theorem acr : Lv fm "room" := by decide +kernel
theorem acs : FnScope ["names", "term", "room"] ["names", "term", "room"] (au Fm) := ⟨rfl, rfl, rfl, by decide +kernel, rfl, by decide +kernel, by decide +kernel⟩
theorem acu : Lv Fm "names" := by decide +kernel
theorem Nb : Lv Fm "term" := by decide +kernel
theorem acv : Lv Fm "room" := by decide +kernel
theorem Kv : FnScope ["names", "term", "room", "function", "kinds", "kind"] ["names", "term", "room"] (au Dt) := ⟨rfl, rfl, rfl, by decide +kernel, rfl, by decide +kernel, by decide +kernel⟩
theorem Ry : Lv Dt "names" := by decide +kernel
theorem Rz : Lv Dt "term" := by decide +kernel
theorem acw : Lv Dt "room" := by decide +kernel
theorem nc : Lv Dt "function" := by decide +kernel
theorem Sa : Lv Dt "kinds" := by decide +kernel
theorem Sb : Lv Dt "kind" := by decide +kernel
theorem acx : FnScope ["names", "term", "room"] ["names", "term", "room"] (au fo) := ⟨rfl, rfl, rfl, by decide +kernel, rfl, by decide +kernel, by decide +kernel⟩
theorem acy : Lv fo "names" := by decide +kernel
theorem acz : Lv fo "term" := by decide +kernel
theorem ada : Lv fo "room" := by decide +kernel
theorem adb : FnScope ["names", "term", "room"] ["names", "term", "room"] (au Fo) := ⟨rfl, rfl, rfl, by decide +kernel, rfl, by decide +kernel, by decide +kernel⟩
theorem ade : Lv Fo "names" := by decide +kernel
theorem adf : Lv Fo "term" := by decide +kernel
theorem adg : Lv Fo "room" := by decide +kernel
theorem adh : FnScope ["thing"] ["thing"] (au gy) := ⟨rfl, rfl, rfl, by decide +kernel, rfl, by decide +kernel, by decide +kernel⟩
theorem Nc : Lv gy "thing" := by decide +kernel
theorem adi : FnScope ["thing"] ["thing"] (au Gy) := ⟨rfl, rfl, rfl, by decide +kernel, rfl, by decide +kernel, by decide +kernel⟩
theorem Nd : Lv Gy "thing" := by decide +kernel
theorem adj : FnScope ["thing"] ["thing"] (au gz) := ⟨rfl, rfl, rfl, by decide +kernel, rfl, by decide +kernel, by decide +kernel⟩
theorem sd : Lv gz "thing" := by decide +kernel
theorem adk : FnScope ["thing"] ["thing"] (au Gz) := ⟨rfl, rfl, rfl, by decide +kernel, rfl, by decide +kernel, by decide +kernel⟩
theorem se : Lv Gz "thing" := by decide +kernel
theorem adl : FnScope ["thing"] ["thing"] (au Ha) := ⟨rfl, rfl, rfl, by decide +kernel, rfl, by decide +kernel, by decide +kernel⟩
theorem iq : Lv Ha "thing" := by decide +kernel
theorem adm : FnScope ["thing"] ["thing"] (au Hb) := ⟨rfl, rfl, rfl, by decide +kernel, rfl, by decide +kernel, by decide +kernel⟩
theorem Ji : Lv Hb "thing" := by decide +kernel
theorem Iq : FnScope ["wholes", "values", "name", "low", "high"] ["wholes"] (au Ea) := ⟨rfl, rfl, rfl, by decide +kernel, rfl, by decide +kernel, by decide +kernel⟩
theorem Nf : Lv Ea "wholes" := by decide +kernel
theorem ng : Lv Ea "values" := by decide +kernel
theorem adn : Lv Ea "name" := by decide +kernel
theorem Se : Lv Ea "low" := by decide +kernel
theorem Sf : Lv Ea "high" := by decide +kernel
theorem ado : FnScope ["functions"] ["functions"] (au Hc) := ⟨rfl, rfl, rfl, by decide +kernel, rfl, by decide +kernel, by decide +kernel⟩
theorem Sg : Lv Hc "functions" := by decide +kernel
theorem adp : FnScope ["names"] ["names"] (au Hd) := ⟨rfl, rfl, rfl, by decide +kernel, rfl, by decide +kernel, by decide +kernel⟩
theorem adq : Lv Hd "names" := by decide +kernel
theorem ads : FnScope ["rows"] ["rows"] (au He) := ⟨rfl, rfl, rfl, by decide +kernel, rfl, by decide +kernel, by decide +kernel⟩
theorem adt : Lv He "rows" := by decide +kernel
theorem adu : FnScope ["names"] ["names"] (au Hf) := ⟨rfl, rfl, rfl, by decide +kernel, rfl, by decide +kernel, by decide +kernel⟩
theorem sh : Lv Hf "names" := by decide +kernel
theorem Sh : FnScope ["self", "numbers", "wholes", "things", "functions", "arrays", "names"] ["self", "numbers", "wholes", "things", "functions", "arrays"] (au Dk) := ⟨rfl, rfl, rfl, by decide +kernel, rfl, by decide +kernel, by decide +kernel⟩
theorem Ey : Lv Dk "self" := by decide +kernel
theorem ky : Lv Dk "numbers" := by decide +kernel
theorem jj : Lv Dk "wholes" := by decide +kernel
theorem Ky : Lv Dk "things" := by decide +kernel
theorem kz : Lv Dk "functions" := by decide +kernel
theorem Kz : Lv Dk "arrays" := by decide +kernel
theorem si : Lv Dk "names" := by decide +kernel
theorem adv : FnScope ["self", "name"] ["self", "name"] (au Ge) := ⟨rfl, rfl, rfl, by decide +kernel, rfl, by decide +kernel, by decide +kernel⟩
theorem adw : Lv Ge "self" := by decide +kernel
theorem Si : Lv Ge "name" := by decide +kernel
theorem adx : FnScope ["self", "name"] ["self", "name"] (au gf) := ⟨rfl, rfl, rfl, by decide +kernel, rfl, by decide +kernel, by decide +kernel⟩
theorem ady : Lv gf "self" := by decide +kernel
theorem sj : Lv gf "name" := by decide +kernel
theorem adz : FnScope ["_law_script", "_law_k"] ["_law_script", "_law_k"] (au Gf) := ⟨rfl, rfl, rfl, by decide +kernel, rfl, by decide +kernel, by decide +kernel⟩
theorem Sj : Lv Gf "_law_script" := by decide +kernel
theorem sk : Lv Gf "_law_k" := by decide +kernel
theorem Hh : FnScope ["_law_cell", "_law_found", "_law_number", "_law_k"] ["_law_cell"] (au Eo) := ⟨rfl, rfl, rfl, by decide +kernel, rfl, by decide +kernel, by decide +kernel⟩
theorem Ng : Lv Eo "_law_cell" := by decide +kernel
theorem la : Lv Eo "_law_found" := by decide +kernel
theorem Fp : Lv Eo "_law_number" := by decide +kernel
theorem nh : Lv Eo "_law_k" := by decide +kernel
theorem Sk : FnScope ["_law_functions"] [] (au Hg) := ⟨rfl, rfl, rfl, by decide +kernel, rfl, by decide +kernel, by decide +kernel⟩
theorem Nh : Lv Hg "_law_functions" := by decide +kernel
theorem Eb : FnScope ["_law_number", "_law_deep_here", "_law_fork", "_law_inner", "_law_first", "_law_second", "_law_third"] ["_law_number", "_law_deep_here"] (au Dl) := ⟨rfl, rfl, rfl, by decide +kernel, rfl, by decide +kernel, by decide +kernel⟩
theorem Dd : Lv Dl "_law_number" := by decide +kernel
theorem Jj : Lv Dl "_law_deep_here" := by decide +kernel
theorem ni : Lv Dl "_law_fork" := by decide +kernel
theorem Sl : Lv Dl "_law_inner" := by decide +kernel
theorem sm : Lv Dl "_law_first" := by decide +kernel
theorem Sm : Lv Dl "_law_second" := by decide +kernel
theorem Sn : Lv Dl "_law_third" := by decide +kernel
theorem fq : FnScope ["_law_number", "_law_deep_here", "_law_fork", "_law_inner", "_law_place", "_law_last"] ["_law_number", "_law_deep_here"] (au du) := ⟨rfl, rfl, rfl, by decide +kernel, rfl, by decide +kernel, by decide +kernel⟩
theorem Dv : Lv du "_law_number" := by decide +kernel
theorem La : Lv du "_law_deep_here" := by decide +kernel
theorem so : Lv du "_law_fork" := by decide +kernel
theorem So : Lv du "_law_inner" := by decide +kernel
theorem Sq : Lv du "_law_place" := by decide +kernel
theorem sr : Lv du "_law_last" := by decide +kernel
theorem Sr : FnScope ["_law_number", "_law_some"] ["_law_number"] (au Gg) := ⟨rfl, rfl, rfl, by decide +kernel, rfl, by decide +kernel, by decide +kernel⟩
theorem jk : Lv Gg "_law_number" := by decide +kernel
theorem su : Lv Gg "_law_some" := by decide +kernel
theorem Ci : FnScope ["_law_number", "_law_deep_here", "_law_fork", "_law_inner", "_law_rest", "_law_some", "_law_k", "_law_one", "_law_place", "_law_first", "_law_second"] ["_law_number", "_law_deep_here"] (au Cs) := ⟨rfl, rfl, rfl, by decide +kernel, rfl, by decide +kernel, by decide +kernel⟩
theorem Bx : Lv Cs "_law_number" := by decide +kernel
theorem Hi : Lv Cs "_law_deep_here" := by decide +kernel
theorem Fq : Lv Cs "_law_fork" := by decide +kernel
theorem lb : Lv Cs "_law_inner" := by decide +kernel
theorem ir : Lv Cs "_law_rest" := by decide +kernel
theorem Ni : Lv Cs "_law_some" := by decide +kernel
theorem aea : Lv Cs "_law_k" := by decide +kernel
theorem Su : Lv Cs "_law_one" := by decide +kernel
theorem Sv : Lv Cs "_law_place" := by decide +kernel
theorem nj : Lv Cs "_law_first" := by decide +kernel
theorem Sw : Lv Cs "_law_second" := by decide +kernel
theorem Jk : FnScope ["_law_house_here", "_law_term", "e", "_law_others"] ["_law_house_here", "_law_term"] (au Ep) := ⟨rfl, rfl, rfl, by decide +kernel, rfl, by decide +kernel, by decide +kernel⟩
theorem aeb : Lv Ep "_law_house_here" := by decide +kernel
theorem aec : Lv Ep "_law_term" := by decide +kernel
theorem Fs : Lv Ep "e" := by decide +kernel
theorem Ir : Lv Ep "_law_others" := by decide +kernel
theorem Co : FnScope ["_law_num_here", "_law_thing_here", "_law_array_here", "_law_cell", "_law_one", "_law_some"] ["_law_num_here", "_law_thing_here", "_law_array_here", "_law_cell"] (au Du) := ⟨rfl, rfl, rfl, by decide +kernel, rfl, by decide +kernel, by decide +kernel⟩
theorem br : Lv Du "_law_num_here" := by decide +kernel
theorem iu : Lv Du "_law_thing_here" := by decide +kernel
theorem ft : Lv Du "_law_array_here" := by decide +kernel
theorem aed : Lv Du "_law_cell" := by decide +kernel
theorem sx : Lv Du "_law_one" := by decide +kernel
theorem Bj : Lv Du "_law_some" := by decide +kernel
theorem aee : FnScope ["_law_wrong_here", "_law_num_here", "_law_array_here", "_law_cell"] ["_law_wrong_here", "_law_num_here", "_law_array_here", "_law_cell"] (au er) := ⟨rfl, rfl, rfl, by decide +kernel, rfl, by decide +kernel, by decide +kernel⟩
theorem Hj : Lv er "_law_wrong_here" := by decide +kernel
theorem Lb : Lv er "_law_num_here" := by decide +kernel
theorem Nj : Lv er "_law_array_here" := by decide +kernel
theorem Iu : Lv er "_law_cell" := by decide +kernel
theorem Iv : FnScope ["_law_word", "_law_inner", "_law_many", "_law_k"] ["_law_word", "_law_inner", "_law_many"] (au Et) := ⟨rfl, rfl, rfl, by decide +kernel, rfl, by decide +kernel, by decide +kernel⟩
theorem nk : Lv Et "_law_word" := by decide +kernel
theorem Ft : Lv Et "_law_inner" := by decide +kernel
theorem aef : Lv Et "_law_many" := by decide +kernel
theorem aeg : Lv Et "_law_k" := by decide +kernel
theorem Nk : FnScope ["_law_house_here", "_law_cell", "_law_word", "_law_leaf"] ["_law_house_here", "_law_cell"] (au eu) := ⟨rfl, rfl, rfl, by decide +kernel, rfl, by decide +kernel, by decide +kernel⟩
theorem Nl : Lv eu "_law_house_here" := by decide +kernel
theorem Nm : Lv eu "_law_cell" := by decide +kernel
theorem Lc : Lv eu "_law_word" := by decide +kernel
theorem Ld : Lv eu "_law_leaf" := by decide +kernel
theorem dm : FnScope ["_law_script", "_law_house_here", "_law_number", "_law_num_here", "_law_thing_here", "_law_array_here", "_law_k", "_law_cell", "_law_wrong_here"] ["_law_script"] (au Cw) := ⟨rfl, rfl, rfl, by decide +kernel, rfl, by decide +kernel, by decide +kernel⟩
theorem Hk : Lv Cw "_law_script" := by decide +kernel
theorem Gi : Lv Cw "_law_house_here" := by decide +kernel
theorem Hl : Lv Cw "_law_number" := by decide +kernel
theorem iw : Lv Cw "_law_num_here" := by decide +kernel
theorem Nn : Lv Cw "_law_thing_here" := by decide +kernel
theorem jl : Lv Cw "_law_array_here" := by decide +kernel
theorem aeh : Lv Cw "_law_k" := by decide +kernel
theorem Le : Lv Cw "_law_cell" := by decide +kernel
theorem Jl : Lv Cw "_law_wrong_here" := by decide +kernel
section
variable {n : Nat} (hw : cls.w = w) (T : Txt K mg fd cls) (ih : IH (Fk Pr w K mg base fd cls FF n))
include hw T ih
theorem aei : Fk Pr w K mg base fd cls FF (n + 1) 1 ["thing"] 1 := by
 refine bc (m := 2 * n + 1) (body' := rh) T.f_1 acb rfl fun cdv A outer s H E hrm => ?_
 have hr := hrm.mono (show 2 * n ≤ 2 * n + 1 by omega)
 have hu := hr.units
 subst hw
 refine ae ?_ ?_
 refine Ao ?_
 refine Ej ?_ ?_
 refine Cv ?_ ?_ ?_ ?_ T.z_isinstance ?_ T.z_int ?_ ?_
 rfl
 decide
 exact fun n => cx (n := n) (x := "int") (by decide)
 rfl
 rfl
 rfl
 exact sv rq
 refine fx ?_
 refine Ye ?_
 refine Cv ?_ ?_ ?_ ?_ T.z_isinstance ?_ T.z_bool ?_ ?_
 rfl
 decide
 exact fun n => cx (n := n) (x := "bool") (by decide)
 rfl
 rfl
 rfl
 exact sv rq
 exact ah
theorem aej : Fk Pr w K mg base fd cls FF (n + 1) 2 ["thing"] 1 := by
 refine bc (m := 2 * n + 1) (body' := Kk) T.f_2 Mv rfl fun cdv A outer s H E hrm => ?_
 have hr := hrm.mono (show 2 * n ≤ 2 * n + 1 by omega)
 have hu := hr.units
 subst hw
 refine ae ?_ ?_
 refine ay ?_ ?_ ?_
 refine PW.pt ?_
 refine ck ?_ ?_
 refine Bq ?_
 refine Bp ?_ ?_ ?_ ?_
 rfl
 refine Cv ?_ ?_ ?_ ?_ T.z_isinstance ?_ T.z_tuple ?_ ?_
 rfl
 decide
 exact fun n => cx (n := n) (x := "tuple") (by decide)
 rfl
 rfl
 rfl
 exact sv mw
 exact dy
 intro _; rfl
 refine di ?_
 refine ej ?_ ?_ ?_ ?_
 rfl
 exact hu
 refine Ek ?_ ?_ T.z_len ?_
 rfl
 rfl
 refine aa (sv mw) ?_
 exact Ab
 exact Ae
 refine ae ?_ ?_
 exact Ao Dg
 exact ah
 exact ah
 refine ae ?_ ?_
 refine Ck (is := [1, 2]) ?_ ?_
 exact sv mw
 refine Bv ?_ ?_
 rfl
 refine Aw ?_ ?_
 refine Ax (i := 1) ?_ ?_ ?_
 exact Mv.nd
 rfl
 exact Or.inl Mw
 refine Aw ?_ ?_
 refine Ax (i := 2) ?_ ?_ ?_
 exact Mv.nd
 rfl
 exact Or.inl Ks
 exact Bu
 refine ae ?_ ?_
 refine ay ?_ ?_ ?_
 refine PW.pt ?_
 refine ck ?_ ?_
 refine Bq ?_
 refine Bp ?_ ?_ ?_ ?_
 rfl
 refine Am ih.i_1 hr (by rfl) T.m_1 T.f_1.kp T.b_1 .nil Aj Ak (Ai rfl) ?_
 refine aa (sv Mw) ?_
 exact Ab
 exact Dj
 intro _; rfl
 refine di ?_
 refine Bq ?_
 refine Bp ?_ ?_ ?_ ?_
 rfl
 refine Am ih.i_1 hr (by rfl) T.m_1 T.f_1.kp T.b_1 .nil Aj Ak (Ai rfl) ?_
 refine aa (sv Ks) ?_
 exact Ab
 exact Dj
 intro _; rfl
 refine ae ?_ ?_
 exact Ao Dg
 exact ah
 exact ah
 refine ae ?_ ?_
 refine Ao ?_
 refine Ej ?_ ?_
 refine Xz (sv Ks) ?_
 exact Ae
 refine fx ?_
 refine Lz ?_ ?_ ?_ ?_
 rfl
 exact hu
 refine Am ih.i_3 hr (by rfl) T.m_3 T.f_3.kp T.b_3 .nil Aj Ak (Ai rfl) ?_
 refine aa (sv Mw) ?_
 refine aa (sv Ks) ?_
 exact Ab
 exact Ae
 exact ah
theorem aek : Fk Pr w K mg base fd cls FF (n + 1) 3 ["one", "other"] 2 := by
 refine bc (m := 2 * n + 1) (body' := kl) T.f_3 mx rfl fun cdv A outer s H E hrm => ?_
 have hr := hrm.mono (show 2 * n ≤ 2 * n + 1 by omega)
 have hu := hr.units
 subst hw
 refine ae ?_ ?_
 refine qa (i := 0) (j := 1) ?_ ?_ ?_ ?_ ?_ ?_ ?_ ?_ ?_ ?_
 rfl
 exact mx.nd
 rfl
 rfl
 decide
 exact ji
 exact Ip
 refine Px ?_ T.z_abs ?_
 rfl
 refine aa (sv ji) ?_
 exact Ab
 refine Px ?_ T.z_abs ?_
 rfl
 refine aa (sv Ip) ?_
 exact Ab
 rfl
 refine ae ?_ ?_
 refine Yi PassesOwn.leaving ?_ ?_
 refine ej ?_ ?_ ?_ ?_
 rfl
 exact hu
 exact sv Ip
 exact Ae
 refine ae ?_ ?_
 refine qa (i := 0) (j := 1) ?_ ?_ ?_ ?_ ?_ ?_ ?_ ?_ ?_ ?_
 rfl
 exact mx.nd
 rfl
 rfl
 decide
 exact ji
 exact Ip
 exact sv Ip
 refine Bh (sv ji) ?_
 exact sv Ip
 rfl
 exact ah
 refine ae ?_ ?_
 exact Ao (sv ji)
 exact ah
theorem ael : Fk Pr w K mg base fd cls FF (n + 1) 4 ["thing"] 1 := by
 refine bc (m := 2 * n + 1) (body' := Kl) T.f_4 acd rfl fun cdv A outer s H E hrm => ?_
 have hr := hrm.mono (show 2 * n ≤ 2 * n + 1 by omega)
 have hu := hr.units
 subst hw
 refine ae ?_ ?_
 refine ay ?_ ?_ ?_
 refine PW.pt ?_
 refine ck ?_ ?_
 refine Bq ?_
 refine Bp ?_ ?_ ?_ ?_
 rfl
 refine Cv ?_ ?_ ?_ ?_ T.z_isinstance ?_ T.z_tuple ?_ ?_
 rfl
 decide
 exact fun n => cx (n := n) (x := "tuple") (by decide)
 rfl
 rfl
 rfl
 exact sv ku
 exact dy
 intro _; rfl
 refine ck ?_ ?_
 refine Bq ?_
 refine Bp ?_ ?_ ?_ ?_
 rfl
 exact sv ku
 exact zf
 intro _; rfl
 refine di ?_
 refine Bq ?_
 refine Bp ?_ ?_ ?_ ?_
 rfl
 refine Cv ?_ ?_ ?_ ?_ T.z_isinstance ?_ T.z_str ?_ ?_
 rfl
 decide
 exact fun n => cx (n := n) (x := "str") (by decide)
 rfl
 rfl
 rfl
 refine Bm ?_ ?_ ?_ ?_ ?_ ?_
 rfl
 rfl
 exact hu
 exact sv ku
 exact Ae
 intro _ _; rfl
 exact dy
 intro _; rfl
 refine ae ?_ ?_
 exact Ao fh
 exact ah
 exact ah
 refine ae ?_ ?_
 refine Ao ?_
 refine Bm ?_ ?_ ?_ ?_ ?_ ?_
 rfl
 rfl
 exact hu
 exact sv ku
 exact Ae
 intro _ _; rfl
 exact ah
theorem aem : Fk Pr w K mg base fd cls FF (n + 1) 5 ["names", "term"] 2 := by
 refine bc (m := 2 * n + 1) (body' := Ii) T.f_5 ace rfl fun cdv A outer s H E hrm => ?_
 have hr := hrm.mono (show 2 * n ≤ 2 * n + 1 by omega)
 have hu := hr.units
 subst hw
 refine ae ?_ ?_
 refine Ao ?_
 refine Am ih.i_6 hr (by rfl) T.m_6 T.f_6.kp T.b_6 .nil Aj Ak (Ai rfl) ?_
 refine aa (sv acf) ?_
 refine aa (sv acg) ?_
 refine aa ?_ ?_
 exact Ie (by rfl) T.gc_DEEPEST.choose_spec.1 T.gc_DEEPEST.choose_spec.2 (fun _ _ => by simp [DD.G.Rep, DD.Rep])
 exact Ab
 exact ah
theorem aen : Fk Pr w K mg base fd cls FF (n + 1) 6 ["names", "term", "room"] 3 := by
 refine bc (m := 2 * n + 1) (body' := Eu) T.f_6 Mx rfl fun cdv A outer s H E hrm => ?_
 have hr := hrm.mono (show 2 * n ≤ 2 * n + 1 by omega)
 have hu := hr.units
 subst hw
 refine ae ?_ ?_
 refine Av (i := 3) ?_ ?_ ?_ ?_
 exact Mx.nd
 rfl
 exact Or.inl Ku
 refine Am ih.i_4 hr (by rfl) T.m_4 T.f_4.kp T.b_4 .nil Aj Ak (Ai rfl) ?_
 refine aa (sv my) ?_
 exact Ab
 refine ae ?_ ?_
 refine ay ?_ ?_ ?_
 refine PW.pt ?_
 refine ck ?_ ?_
 refine jb (sv Rq) ?_
 exact Ae
 refine ck ?_ ?_
 refine abg ?_ ?_ T.tb_LENGTHS ?_
 rfl
 rfl
 exact sv Ku
 refine di ?_
 refine ej ?_ ?_ ?_ ?_
 rfl
 exact hu
 refine Ek ?_ ?_ T.z_len ?_
 rfl
 rfl
 refine aa (sv my) ?_
 exact Ab
 refine abb ?_ T.tb_LENGTHS ?_ ?_ ?_
 rfl
 rfl
 exact sv Ku
 intro _ _; rfl
 refine ae ?_ ?_
 refine dj ?_ ?_ ?_ T.nc_BadTerm T.mc_BadTerm T.xc_BadTerm
 exact Dh
 exact hr.hd
 rfl
 exact ah
 exact ah
 refine ae ?_ ?_
 refine Av (i := 4) ?_ ?_ ?_ ?_
 exact Mx.nd
 rfl
 exact Or.inl Rr
 refine abc ?_ T.tb_DEEDS ?_ ?_
 rfl
 exact sv Ku
 intro _ _; rfl
 refine ae ?_ ?_
 refine Ao ?_
 refine abh (k := 2 * n) (np := 3) ?_ ?_ ?_ ?_ ?_
 refine aca (fd := fd) ?_ ?_
 exact T
 exact ih
 exact hr
 exact Ak
 exact sv Rr
 refine aa (sv ach) ?_
 refine aa (sv my) ?_
 refine aa ?_ ?_
 refine Cb (sv Rq) ?_
 exact Ae
 exact Ab
 exact ah
theorem aeo : Fk Pr w K mg base fd cls FF (n + 1) 7 ["names", "terms", "kinds", "room"] 4 := by
 refine bc (m := 2 * n + 1) (body' := Ew) T.f_7 mz rfl fun cdv A outer s H E hrm => ?_
 have hr := hrm.mono (show 2 * n ≤ 2 * n + 1 by omega)
 have hu := hr.units
 subst hw
 refine ae ?_ ?_
 refine ay ?_ ?_ ?_
 refine PW.pt ?_
 refine ck ?_ ?_
 refine Bq ?_
 refine Bp ?_ ?_ ?_ ?_
 rfl
 refine Cv ?_ ?_ ?_ ?_ T.z_isinstance ?_ T.z_tuple ?_ ?_
 rfl
 decide
 exact fun n => cx (n := n) (x := "tuple") (by decide)
 rfl
 rfl
 rfl
 exact sv Mz
 exact dy
 intro _; rfl
 refine di ?_
 refine ej ?_ ?_ ?_ ?_
 rfl
 exact hu
 refine Ek ?_ ?_ T.z_len ?_
 rfl
 rfl
 refine aa (sv Mz) ?_
 exact Ab
 refine Ek ?_ ?_ T.z_len ?_
 rfl
 rfl
 refine aa (sv Rt) ?_
 exact Ab
 refine ae ?_ ?_
 refine dj ?_ ?_ ?_ T.nc_BadTerm T.mc_BadTerm T.xc_BadTerm
 exact Dh
 exact hr.hd
 rfl
 exact ah
 exact ah
 refine ae ?_ ?_
 refine abq (t1 := [4]) (o1 := true) (t2 := [5]) (o2 := true) ?_ ?_ ?_ ?_ T.z_zip ?_ ?_ ?_ ?_
 rfl
 exact PassesOwn.leaving
 rfl
 rfl
 exact sv Mz
 exact sv Rt
 refine Bv ?_ ?_
 rfl
 refine Aw ?_ ?_
 refine Cr mz.nd ?_ ?_
 rfl
 exact Or.inl Ru
 refine Aw ?_ ?_
 refine Cr mz.nd ?_ ?_
 rfl
 exact Or.inl Rv
 exact Bu
 refine ae ?_ ?_
 refine ay ?_ ?_ ?_
 refine ej ?_ ?_ ?_ ?_
 rfl
 exact hu
 refine Am ih.i_6 hr (by rfl) T.m_6 T.f_6.kp T.b_6 .nil Aj Ak (Ai rfl) ?_
 refine aa (sv aci) ?_
 refine aa (sv Ru) ?_
 refine aa (sv acj) ?_
 exact Ab
 exact sv Rv
 refine ae ?_ ?_
 refine dj ?_ ?_ ?_ T.nc_BadTerm T.mc_BadTerm T.xc_BadTerm
 exact Dh
 exact hr.hd
 rfl
 exact ah
 exact ah
 exact ah
 exact ah
theorem aep : Fk Pr w K mg base fd cls FF (n + 1) 8 ["names", "term", "room"] 3 := by
 refine bc (m := 2 * n + 1) (body' := Ij) T.f_8 ack rfl fun cdv A outer s H E hrm => ?_
 have hr := hrm.mono (show 2 * n ≤ 2 * n + 1 by omega)
 have hu := hr.units
 subst hw
 refine ae ?_ ?_
 refine ay ?_ ?_ ?_
 refine Bq ?_
 refine Bp ?_ ?_ ?_ ?_
 rfl
 refine Am ih.i_2 hr (by rfl) T.m_2 T.f_2.kp T.b_2 .nil Aj Ak (Ai rfl) ?_
 refine aa ?_ ?_
 refine Bm ?_ ?_ ?_ ?_ ?_ ?_
 rfl
 rfl
 exact hu
 exact sv acm
 exact Ae
 intro _ _; rfl
 exact Ab
 exact Dj
 intro _; rfl
 refine ae ?_ ?_
 refine dj ?_ ?_ ?_ T.nc_BadTerm T.mc_BadTerm T.xc_BadTerm
 exact Dh
 exact hr.hd
 rfl
 exact ah
 exact ah
 refine ae ?_ ?_
 exact Ao ag
 exact ah
theorem aeq : Fk Pr w K mg base fd cls FF (n + 1) 9 ["names", "term", "room"] 3 := by
 refine bc (m := 2 * n + 1) (body' := ik) T.f_9 Rw rfl fun cdv A outer s H E hrm => ?_
 have hr := hrm.mono (show 2 * n ≤ 2 * n + 1 by omega)
 have hu := hr.units
 subst hw
 refine ae ?_ ?_
 refine Av (i := 3) ?_ ?_ ?_ ?_
 exact Rw.nd
 rfl
 exact Or.inl Na
 refine Qg (k := 2 * n) (np := 2) T.cl_Names T.me_Names_kind ?_ ?_ T.b_32 ?_ ?_ ?_ ?_
 exact ih.i_32
 exact hr
 exact Ak
 exact Ai rfl
 exact sv acn
 refine aa ?_ ?_
 refine Bm ?_ ?_ ?_ ?_ ?_ ?_
 rfl
 rfl
 exact hu
 exact sv aco
 exact Ae
 intro _ _; rfl
 exact Ab
 refine ae ?_ ?_
 refine ay ?_ ?_ ?_
 refine Qc ?_ ?_ ?_ ?_ ?_
 rfl
 rfl
 exact hu
 exact sv Na
 exact fh
 refine ae ?_ ?_
 refine dj ?_ ?_ ?_ T.nc_BadTerm T.mc_BadTerm T.xc_BadTerm
 exact Dh
 exact hr.hd
 rfl
 exact ah
 exact ah
 refine ae ?_ ?_
 exact Ao (sv Na)
 exact ah
theorem aer : Fk Pr w K mg base fd cls FF (n + 1) 10 ["names", "term", "room"] 3 := by
 refine bc (m := 2 * n + 1) (body' := gh) T.f_10 acp rfl fun cdv A outer s H E hrm => ?_
 have hr := hrm.mono (show 2 * n ≤ 2 * n + 1 by omega)
 have hu := hr.units
 subst hw
 refine ae ?_ ?_
 refine ay ?_ ?_ ?_
 refine Bq ?_
 refine Bp ?_ ?_ ?_ ?_
 rfl
 refine Am ih.i_2 hr (by rfl) T.m_2 T.f_2.kp T.b_2 .nil Aj Ak (Ai rfl) ?_
 refine aa ?_ ?_
 refine Bm ?_ ?_ ?_ ?_ ?_ ?_
 rfl
 rfl
 exact hu
 exact sv Rx
 exact Ae
 intro _ _; rfl
 exact Ab
 exact Dj
 intro _; rfl
 refine ae ?_ ?_
 refine dj ?_ ?_ ?_ T.nc_BadTerm T.mc_BadTerm T.xc_BadTerm
 exact Dh
 exact hr.hd
 rfl
 exact ah
 exact ah
 refine ae ?_ ?_
 refine Df ?_
 refine Am ih.i_7 hr (by rfl) T.m_7 T.f_7.kp T.b_7 .nil Aj Ak (Ai rfl) ?_
 refine aa (sv acq) ?_
 refine aa ?_ ?_
 refine me ?_ ?_ ?_
 rfl
 exact sv Rx
 exact Ae
 refine aa ?_ ?_
 refine Ag ?_
 exact aa ag Ab
 refine aa (sv acr) ?_
 exact Ab
 refine ae ?_ ?_
 exact Ao ag
 exact ah
theorem aes : Fk Pr w K mg base fd cls FF (n + 1) 11 ["names", "term", "room"] 3 := by
 refine bc (m := 2 * n + 1) (body' := Gh) T.f_11 acs rfl fun cdv A outer s H E hrm => ?_
 have hr := hrm.mono (show 2 * n ≤ 2 * n + 1 by omega)
 have hu := hr.units
 subst hw
 refine ae ?_ ?_
 refine ay ?_ ?_ ?_
 refine Bq ?_
 refine Bp ?_ ?_ ?_ ?_
 rfl
 refine Cv ?_ ?_ ?_ ?_ T.z_isinstance ?_ T.z_tuple ?_ ?_
 rfl
 decide
 exact fun n => cx (n := n) (x := "tuple") (by decide)
 rfl
 rfl
 rfl
 refine Bm ?_ ?_ ?_ ?_ ?_ ?_
 rfl
 rfl
 exact hu
 exact sv Nb
 exact Ae
 intro _ _; rfl
 exact dy
 intro _; rfl
 refine ae ?_ ?_
 refine dj ?_ ?_ ?_ T.nc_BadTerm T.mc_BadTerm T.xc_BadTerm
 exact Dh
 exact hr.hd
 rfl
 exact ah
 exact ah
 refine ae ?_ ?_
 refine Df ?_
 refine Am ih.i_7 hr (by rfl) T.m_7 T.f_7.kp T.b_7 .nil Aj Ak (Ai rfl) ?_
 refine aa (sv acu) ?_
 refine aa ?_ ?_
 refine Bm ?_ ?_ ?_ ?_ ?_ ?_
 rfl
 rfl
 exact hu
 exact sv Nb
 exact Ae
 intro _ _; rfl
 refine aa ?_ ?_
 refine Fh ?_ ?_ ?_
 rfl
 refine Ag ?_
 exact aa ag Ab
 refine Ek ?_ ?_ T.z_len ?_
 rfl
 rfl
 refine aa ?_ ?_
 refine Bm ?_ ?_ ?_ ?_ ?_ ?_
 rfl
 rfl
 exact hu
 exact sv Nb
 exact Ae
 intro _ _; rfl
 exact Ab
 refine aa (sv acv) ?_
 exact Ab
 refine ae ?_ ?_
 exact Ao ag
 exact ah
theorem aet : Fk Pr w K mg base fd cls FF (n + 1) 12 ["names", "term", "room"] 3 := by
 refine bc (m := 2 * n + 1) (body' := gi) T.f_12 Kv rfl fun cdv A outer s H E hrm => ?_
 have hr := hrm.mono (show 2 * n ≤ 2 * n + 1 by omega)
 have hu := hr.units
 subst hw
 refine ae ?_ ?_
 refine Av (i := 3) ?_ ?_ ?_ ?_
 exact Kv.nd
 rfl
 exact Or.inl nc
 refine Qg (k := 2 * n) (np := 2) T.cl_Names T.me_Names_function ?_ ?_ T.b_34 ?_ ?_ ?_ ?_
 exact ih.i_34
 exact hr
 exact Ak
 exact Ai rfl
 exact sv Ry
 refine aa ?_ ?_
 refine Bm ?_ ?_ ?_ ?_ ?_ ?_
 rfl
 rfl
 exact hu
 exact sv Rz
 exact Ae
 intro _ _; rfl
 exact Ab
 refine ae ?_ ?_
 refine ay ?_ ?_ ?_
 refine Qc ?_ ?_ ?_ ?_ ?_
 rfl
 rfl
 exact hu
 exact sv nc
 exact fh
 refine ae ?_ ?_
 refine dj ?_ ?_ ?_ T.nc_BadTerm T.mc_BadTerm T.xc_BadTerm
 exact Dh
 exact hr.hd
 rfl
 exact ah
 exact ah
 refine ae ?_ ?_
 refine Ck (is := [4, 5]) ?_ ?_
 exact sv nc
 refine Bv ?_ ?_
 rfl
 refine Aw ?_ ?_
 refine Ax (i := 4) ?_ ?_ ?_
 exact Kv.nd
 rfl
 exact Or.inl Sa
 refine Aw ?_ ?_
 refine Ax (i := 5) ?_ ?_ ?_
 exact Kv.nd
 rfl
 exact Or.inl Sb
 exact Bu
 refine ae ?_ ?_
 refine Df ?_
 refine Am ih.i_7 hr (by rfl) T.m_7 T.f_7.kp T.b_7 .nil Aj Ak (Ai rfl) ?_
 refine aa (sv Ry) ?_
 refine aa ?_ ?_
 refine Bm ?_ ?_ ?_ ?_ ?_ ?_
 rfl
 rfl
 exact hu
 exact sv Rz
 exact Ae
 intro _ _; rfl
 refine aa (sv Sa) ?_
 refine aa (sv acw) ?_
 exact Ab
 refine ae ?_ ?_
 exact Ao (sv Sb)
 exact ah
theorem aeu : Fk Pr w K mg base fd cls FF (n + 1) 13 ["names", "term", "room"] 3 := by
 refine bc (m := 2 * n + 1) (body' := Ik) T.f_13 acx rfl fun cdv A outer s H E hrm => ?_
 have hr := hrm.mono (show 2 * n ≤ 2 * n + 1 by omega)
 have hu := hr.units
 subst hw
 refine ae ?_ ?_
 refine Df ?_
 refine Am ih.i_7 hr (by rfl) T.m_7 T.f_7.kp T.b_7 .nil Aj Ak (Ai rfl) ?_
 refine aa (sv acy) ?_
 refine aa ?_ ?_
 refine me ?_ ?_ ?_
 rfl
 exact sv acz
 exact Ae
 refine aa ?_ ?_
 refine Ag ?_
 refine aa ag ?_
 exact aa ag Ab
 refine aa (sv ada) ?_
 exact Ab
 refine ae ?_ ?_
 exact Ao ag
 exact ah
theorem aev : Fk Pr w K mg base fd cls FF (n + 1) 14 ["names", "term", "room"] 3 := by
 refine bc (m := 2 * n + 1) (body' := il) T.f_14 adb rfl fun cdv A outer s H E hrm => ?_
 have hr := hrm.mono (show 2 * n ≤ 2 * n + 1 by omega)
 have hu := hr.units
 subst hw
 refine ae ?_ ?_
 refine Df ?_
 refine Am ih.i_7 hr (by rfl) T.m_7 T.f_7.kp T.b_7 .nil Aj Ak (Ai rfl) ?_
 refine aa (sv ade) ?_
 refine aa ?_ ?_
 refine me ?_ ?_ ?_
 rfl
 exact sv adf
 exact Ae
 refine aa ?_ ?_
 refine Ag ?_
 refine aa ag ?_
 refine aa ag ?_
 exact aa ag Ab
 refine aa (sv adg) ?_
 exact Ab
 refine ae ?_ ?_
 exact Ao ag
 exact ah
theorem aew : Fk Pr w K mg base fd cls FF (n + 1) 15 ["thing"] 1 := by
 refine bc (m := 2 * n + 1) (body' := Rh) T.f_15 adh rfl fun cdv A outer s H E hrm => ?_
 have hr := hrm.mono (show 2 * n ≤ 2 * n + 1 by omega)
 have hu := hr.units
 subst hw
 refine ae ?_ ?_
 refine ay ?_ ?_ ?_
 refine PW.pt ?_
 refine ck ?_ ?_
 refine Bq ?_
 refine Bp ?_ ?_ ?_ ?_
 rfl
 refine Cv ?_ ?_ ?_ ?_ T.z_isinstance ?_ T.z_str ?_ ?_
 rfl
 decide
 exact fun n => cx (n := n) (x := "str") (by decide)
 rfl
 rfl
 rfl
 exact sv Nc
 exact dy
 intro _; rfl
 refine di ?_
 refine Bq ?_
 refine yo (c1 := .le) (c2 := .le) ?_ ?_ ?_ ?_ ?_ ?_
 rfl
 rfl
 exact hu
 exact Ae
 refine Ek ?_ ?_ T.z_len ?_
 rfl
 rfl
 refine aa (sv Nc) ?_
 exact Ab
 exact Ie (by rfl) T.gc_LONGEST_NAME.choose_spec.1 T.gc_LONGEST_NAME.choose_spec.2 (fun _ _ => by simp [DD.G.Rep, DD.Rep])
 refine ae ?_ ?_
 exact Ao Dg
 exact ah
 exact ah
 refine ae ?_ ?_
 refine Ao ?_
 refine jd ?_ ?_ ?_ T.z_all ?_
 rfl
 rfl
 rfl
 refine aa ?_ ?_
 refine ie (cl := []) (N := ["sign"]) (nl := 1) (fv := []) (tgs := [0]) (one := true) (k := 3) ?_ ?_ ?_ ?_ ?_ ?_ ?_ ?_ ?_ ?_ ?_ ?_ ?_ ?_
 rfl
 rfl
 rfl
 decide
 decide
 rfl
 refine Dy trivial ?_
 rfl
 rfl
 exact dz trivial
 decide
 exact Zc (sv Nc)
 intro L s0 H0 fp pn
 refine Cr ?_ ?_ ?_ ?_
 show List.Nodup (["sign"] : List Str); decide
 rfl
 exact Or.inl rfl
 exact Or.inr rfl
 intro L s0 H0 fp pn
 exact Dx
 intro L s0 H0 fp pn
 refine pw ?_ ?_ ?_ ?_ ?_
 rfl
 rfl
 exact hu
 exact Cu 0 (pv 0)
 exact Ie (by rfl) T.gc_LETTERS.choose_spec.1 T.gc_LETTERS.choose_spec.2 (fun _ _ => by simp [DD.G.Rep, DD.Rep])
 exact Ab
 exact ah
theorem aex : Fk Pr w K mg base fd cls FF (n + 1) 16 ["thing"] 1 := by
 refine bc (m := 2 * n + 1) (body' := ri) T.f_16 adi rfl fun cdv A outer s H E hrm => ?_
 have hr := hrm.mono (show 2 * n ≤ 2 * n + 1 by omega)
 have hu := hr.units
 subst hw
 refine ae ?_ ?_
 refine Ao ?_
 refine Ej ?_ ?_
 refine Cv ?_ ?_ ?_ ?_ T.z_isinstance ?_ T.z_tuple ?_ ?_
 rfl
 decide
 exact fun n => cx (n := n) (x := "tuple") (by decide)
 rfl
 rfl
 rfl
 exact sv Nd
 refine Ej ?_ ?_
 refine Lz ?_ ?_ ?_ ?_
 rfl
 exact hu
 refine Ek ?_ ?_ T.z_len ?_
 rfl
 rfl
 refine aa (sv Nd) ?_
 exact Ab
 exact Ae
 refine fx ?_
 refine Am ih.i_15 hr (by rfl) T.m_15 T.f_15.kp T.b_15 .nil Aj Ak (Ai rfl) ?_
 refine aa ?_ ?_
 refine Bm ?_ ?_ ?_ ?_ ?_ ?_
 rfl
 rfl
 exact hu
 exact sv Nd
 exact Ae
 intro _ _; rfl
 exact Ab
 exact ah
theorem aey : Fk Pr w K mg base fd cls FF (n + 1) 17 ["thing"] 1 := by
 refine bc (m := 2 * n + 1) (body' := Ri) T.f_17 adj rfl fun cdv A outer s H E hrm => ?_
 have hr := hrm.mono (show 2 * n ≤ 2 * n + 1 by omega)
 have hu := hr.units
 subst hw
 refine ae ?_ ?_
 refine Ao ?_
 refine Ej ?_ ?_
 refine Cv ?_ ?_ ?_ ?_ T.z_isinstance ?_ T.z_str ?_ ?_
 rfl
 decide
 exact fun n => cx (n := n) (x := "str") (by decide)
 rfl
 rfl
 rfl
 exact sv sd
 refine fx ?_
 refine pw ?_ ?_ ?_ ?_ ?_
 rfl
 rfl
 exact hu
 exact sv sd
 refine Ag ?_
 refine aa ag ?_
 exact aa ag Ab
 exact ah
theorem aez : Fk Pr w K mg base fd cls FF (n + 1) 18 ["thing"] 1 := by
 refine bc (m := 2 * n + 1) (body' := rj) T.f_18 adk rfl fun cdv A outer s H E hrm => ?_
 have hr := hrm.mono (show 2 * n ≤ 2 * n + 1 by omega)
 have hu := hr.units
 subst hw
 refine ae ?_ ?_
 refine Ao ?_
 refine Ej ?_ ?_
 refine Cv ?_ ?_ ?_ ?_ T.z_isinstance ?_ T.z_list ?_ ?_
 rfl
 decide
 exact fun n => cx (n := n) (x := "list") (by decide)
 rfl
 rfl
 rfl
 exact sv se
 refine fx ?_
 refine jd ?_ ?_ ?_ T.z_all ?_
 rfl
 rfl
 rfl
 refine aa ?_ ?_
 refine ie (cl := []) (N := ["part"]) (nl := 1) (fv := []) (tgs := [0]) (one := true) (k := 0) ?_ ?_ ?_ ?_ ?_ ?_ ?_ ?_ ?_ ?_ ?_ ?_ ?_ ?_
 rfl
 rfl
 rfl
 decide
 decide
 rfl
 refine Dy trivial ?_
 rfl
 rfl
 exact dz trivial
 decide
 refine fj ?_ ?_
 rfl
 exact sv se
 intro L s0 H0 fp pn
 refine Cr ?_ ?_ ?_ ?_
 show List.Nodup (["part"] : List Str); decide
 rfl
 exact Or.inl rfl
 exact Or.inr rfl
 intro L s0 H0 fp pn
 exact Dx
 intro L s0 H0 fp pn
 refine Am ih.i_15 hr (by rfl) T.m_15 T.f_15.kp T.b_15 .nil Aj Kj (Ai rfl) ?_
 refine aa ?_ ?_
 exact Cu 0 (pv 0)
 exact Ab
 exact Ab
 exact ah
theorem afa : Fk Pr w K mg base fd cls FF (n + 1) 19 ["thing"] 1 := by
 refine bc (m := 2 * n + 1) (body' := Rj) T.f_19 adl rfl fun cdv A outer s H E hrm => ?_
 have hr := hrm.mono (show 2 * n ≤ 2 * n + 1 by omega)
 have hu := hr.units
 subst hw
 refine ae ?_ ?_
 refine ay ?_ ?_ ?_
 refine PW.pt ?_
 refine ck ?_ ?_
 refine Bq ?_
 refine Bp ?_ ?_ ?_ ?_
 rfl
 refine Am ih.i_16 hr (by rfl) T.m_16 T.f_16.kp T.b_16 .nil Aj Ak (Ai rfl) ?_
 refine aa (sv iq) ?_
 exact Ab
 exact Dj
 intro _; rfl
 refine ck ?_ ?_
 refine Bq ?_
 refine Bp ?_ ?_ ?_ ?_
 rfl
 refine Am ih.i_1 hr (by rfl) T.m_1 T.f_1.kp T.b_1 .nil Aj Ak (Ai rfl) ?_
 refine aa ?_ ?_
 refine Bm ?_ ?_ ?_ ?_ ?_ ?_
 rfl
 rfl
 exact hu
 exact sv iq
 exact Ae
 intro _ _; rfl
 exact Ab
 exact Dj
 intro _; rfl
 refine di ?_
 refine Bq ?_
 refine Bp ?_ ?_ ?_ ?_
 rfl
 refine Am ih.i_1 hr (by rfl) T.m_1 T.f_1.kp T.b_1 .nil Aj Ak (Ai rfl) ?_
 refine aa ?_ ?_
 refine Bm ?_ ?_ ?_ ?_ ?_ ?_
 rfl
 rfl
 exact hu
 exact sv iq
 exact Ae
 intro _ _; rfl
 exact Ab
 exact Dj
 intro _; rfl
 refine ae ?_ ?_
 exact Ao Dg
 exact ah
 exact ah
 refine ae ?_ ?_
 refine Ao ?_
 refine Qd (c1 := .le) (c2 := .le) ?_ ?_ ?_ ?_ ?_ ?_
 rfl
 rfl
 exact hu
 refine Bm ?_ ?_ ?_ ?_ ?_ ?_
 rfl
 rfl
 exact hu
 exact sv iq
 exact Ae
 intro _ _; rfl
 refine Bm ?_ ?_ ?_ ?_ ?_ ?_
 rfl
 rfl
 exact hu
 exact sv iq
 exact Ae
 intro _ _; rfl
 refine Bf ?_ ?_
 refine Bm ?_ ?_ ?_ ?_ ?_ ?_
 rfl
 rfl
 exact hu
 exact sv iq
 exact Ae
 intro _ _; rfl
 exact Ie (by rfl) T.gc_WIDEST_BOUNDS.choose_spec.1 T.gc_WIDEST_BOUNDS.choose_spec.2 (fun _ _ => by simp [DD.G.Rep, DD.Rep])
 exact ah
theorem afb : Fk Pr w K mg base fd cls FF (n + 1) 20 ["thing"] 1 := by
 refine bc (m := 2 * n + 1) (body' := Rk) T.f_20 adm rfl fun cdv A outer s H E hrm => ?_
 have hr := hrm.mono (show 2 * n ≤ 2 * n + 1 by omega)
 have hu := hr.units
 subst hw
 refine ae ?_ ?_
 refine ay ?_ ?_ ?_
 refine PW.pt ?_
 refine ck ?_ ?_
 refine Bq ?_
 refine Bp ?_ ?_ ?_ ?_
 rfl
 refine Am ih.i_16 hr (by rfl) T.m_16 T.f_16.kp T.b_16 .nil Aj Ak (Ai rfl) ?_
 refine aa (sv Ji) ?_
 exact Ab
 exact Dj
 intro _; rfl
 refine ck ?_ ?_
 refine Bq ?_
 refine Bp ?_ ?_ ?_ ?_
 rfl
 refine Cv ?_ ?_ ?_ ?_ T.z_isinstance ?_ T.z_tuple ?_ ?_
 rfl
 decide
 exact fun n => cx (n := n) (x := "tuple") (by decide)
 rfl
 rfl
 rfl
 refine Bm ?_ ?_ ?_ ?_ ?_ ?_
 rfl
 rfl
 exact hu
 exact sv Ji
 exact Ae
 intro _ _; rfl
 exact dy
 intro _; rfl
 refine di ?_
 refine Bq ?_
 refine Bp ?_ ?_ ?_ ?_
 rfl
 refine Am ih.i_17 hr (by rfl) T.m_17 T.f_17.kp T.b_17 .nil Aj Ak (Ai rfl) ?_
 refine aa ?_ ?_
 refine Bm ?_ ?_ ?_ ?_ ?_ ?_
 rfl
 rfl
 exact hu
 exact sv Ji
 exact Ae
 intro _ _; rfl
 exact Ab
 exact Dj
 intro _; rfl
 refine ae ?_ ?_
 exact Ao Dg
 exact ah
 exact ah
 refine ae ?_ ?_
 refine Ao ?_
 refine Ej ?_ ?_
 refine Qd (c1 := .le) (c2 := .le) ?_ ?_ ?_ ?_ ?_ ?_
 rfl
 rfl
 exact hu
 exact Ae
 refine Ek ?_ ?_ T.z_len ?_
 rfl
 rfl
 refine aa ?_ ?_
 refine Bm ?_ ?_ ?_ ?_ ?_ ?_
 rfl
 rfl
 exact hu
 exact sv Ji
 exact Ae
 intro _ _; rfl
 exact Ab
 exact Ie (by rfl) T.gc_MOST_KINDS.choose_spec.1 T.gc_MOST_KINDS.choose_spec.2 (fun _ _ => by simp [DD.G.Rep, DD.Rep])
 refine fx ?_
 refine jd ?_ ?_ ?_ T.z_all ?_
 rfl
 rfl
 rfl
 refine aa ?_ ?_
 refine ie (cl := []) (N := ["part"]) (nl := 1) (fv := []) (tgs := [0]) (one := true) (k := 1) ?_ ?_ ?_ ?_ ?_ ?_ ?_ ?_ ?_ ?_ ?_ ?_ ?_ ?_
 rfl
 rfl
 rfl
 decide
 decide
 rfl
 refine Dy trivial ?_
 rfl
 rfl
 exact dz trivial
 decide
 refine Yz ?_ ?_
 rfl
 refine Bm ?_ ?_ ?_ ?_ ?_ ?_
 rfl
 rfl
 exact hu
 exact sv Ji
 exact Ae
 intro _ _; rfl
 intro L s0 H0 fp pn
 refine Cr ?_ ?_ ?_ ?_
 show List.Nodup (["part"] : List Str); decide
 rfl
 exact Or.inl rfl
 exact Or.inr rfl
 intro L s0 H0 fp pn
 exact Dx
 intro L s0 H0 fp pn
 refine Am ih.i_17 hr (by rfl) T.m_17 T.f_17.kp T.b_17 .nil Aj Kj (Ai rfl) ?_
 refine aa ?_ ?_
 exact Cu 0 (pv 0)
 exact Ab
 exact Ab
 exact ah
theorem afc : Fk Pr w K mg base fd cls FF (n + 1) 21 ["wholes"] 1 := by
 refine bc (m := 2 * n + 1) (body' := Rl) T.f_21 Iq rfl fun cdv A outer s H E hrm => ?_
 have hr := hrm.mono (show 2 * n ≤ 2 * n + 1 by omega)
 have hu := hr.units
 subst hw
 refine ae ?_ ?_
 refine ay ?_ ?_ ?_
 refine PW.pt ?_
 refine ck ?_ ?_
 refine Bq ?_
 refine Bp ?_ ?_ ?_ ?_
 rfl
 refine Cv ?_ ?_ ?_ ?_ T.z_isinstance ?_ T.z_list ?_ ?_
 rfl
 decide
 exact fun n => cx (n := n) (x := "list") (by decide)
 rfl
 rfl
 rfl
 exact sv Nf
 exact dy
 intro _; rfl
 refine di ?_
 refine Bq ?_
 refine Bp ?_ ?_ ?_ ?_
 rfl
 refine jd ?_ ?_ ?_ T.z_all ?_
 rfl
 rfl
 rfl
 refine aa ?_ ?_
 refine ie (cl := []) (N := ["row"]) (nl := 1) (fv := []) (tgs := [0]) (one := true) (k := 0) ?_ ?_ ?_ ?_ ?_ ?_ ?_ ?_ ?_ ?_ ?_ ?_ ?_ ?_
 rfl
 rfl
 rfl
 decide
 decide
 rfl
 refine Dy trivial ?_
 rfl
 rfl
 exact dz trivial
 decide
 refine fj ?_ ?_
 rfl
 exact sv Nf
 intro L s0 H0 fp pn
 refine Cr ?_ ?_ ?_ ?_
 show List.Nodup (["row"] : List Str); decide
 rfl
 exact Or.inl rfl
 exact Or.inr rfl
 intro L s0 H0 fp pn
 exact Dx
 intro L s0 H0 fp pn
 refine Am ih.i_19 hr (by rfl) T.m_19 T.f_19.kp T.b_19 .nil Aj Kj (Ai rfl) ?_
 refine aa ?_ ?_
 exact Cu 0 (pv 0)
 exact Ab
 exact Ab
 exact qp
 intro _; rfl
 refine ae ?_ ?_
 refine dj ?_ ?_ ?_ T.nc_BadNames T.mc_BadNames T.xc_BadNames
 exact Dh
 exact hr.hd
 rfl
 exact ah
 exact ah
 refine ae ?_ ?_
 refine Av (i := 1) ?_ ?_ ?_ ?_
 exact Iq.nd
 rfl
 exact Or.inl ng
 exact Ae
 refine ae ?_ ?_
 refine Qb (is := [2, 3, 4]) ?_ ?_ ?_ ?_ ?_ ?_
 rfl
 exact PassesOwn.leaving
 rfl
 exact sv Nf
 refine Bv ?_ ?_
 rfl
 refine Aw ?_ ?_
 refine Ax (i := 2) ?_ ?_ ?_
 exact Iq.nd
 rfl
 exact Or.inl adn
 refine Aw ?_ ?_
 refine Ax (i := 3) ?_ ?_ ?_
 exact Iq.nd
 rfl
 exact Or.inl Se
 refine Aw ?_ ?_
 refine Ax (i := 4) ?_ ?_ ?_
 exact Iq.nd
 rfl
 exact Or.inl Sf
 exact Bu
 refine ae ?_ ?_
 refine Ys (i := 1) ?_ ?_ ?_ ?_
 exact Iq.nd
 rfl
 exact Or.inl ng
 refine Bf ?_ ?_
 refine Cb (sv Sf) ?_
 exact sv Se
 exact Ae
 exact ah
 refine ae ?_ ?_
 refine ay ?_ ?_ ?_
 refine Pq (sv ng) ?_
 exact Ie (by rfl) T.gc_MOST_VALUES.choose_spec.1 T.gc_MOST_VALUES.choose_spec.2 (fun _ _ => by simp [DD.G.Rep, DD.Rep])
 refine ae ?_ ?_
 refine dj ?_ ?_ ?_ T.nc_BadNames T.mc_BadNames T.xc_BadNames
 exact Dh
 exact hr.hd
 rfl
 exact ah
 exact ah
 exact ah
theorem afd : Fk Pr w K mg base fd cls FF (n + 1) 22 ["functions"] 1 := by
 refine bc (m := 2 * n + 1) (body' := Rm) T.f_22 ado rfl fun cdv A outer s H E hrm => ?_
 have hr := hrm.mono (show 2 * n ≤ 2 * n + 1 by omega)
 have hu := hr.units
 subst hw
 refine ae ?_ ?_
 refine ay ?_ ?_ ?_
 refine PW.pt ?_
 refine ck ?_ ?_
 refine Bq ?_
 refine Bp ?_ ?_ ?_ ?_
 rfl
 refine Cv ?_ ?_ ?_ ?_ T.z_isinstance ?_ T.z_list ?_ ?_
 rfl
 decide
 exact fun n => cx (n := n) (x := "list") (by decide)
 rfl
 rfl
 rfl
 exact sv Sg
 exact dy
 intro _; rfl
 refine di ?_
 refine Bq ?_
 refine Bp ?_ ?_ ?_ ?_
 rfl
 refine jd ?_ ?_ ?_ T.z_all ?_
 rfl
 rfl
 rfl
 refine aa ?_ ?_
 refine ie (cl := []) (N := ["row"]) (nl := 1) (fv := []) (tgs := [0]) (one := true) (k := 0) ?_ ?_ ?_ ?_ ?_ ?_ ?_ ?_ ?_ ?_ ?_ ?_ ?_ ?_
 rfl
 rfl
 rfl
 decide
 decide
 rfl
 refine Dy trivial ?_
 rfl
 rfl
 exact dz trivial
 decide
 refine fj ?_ ?_
 rfl
 exact sv Sg
 intro L s0 H0 fp pn
 refine Cr ?_ ?_ ?_ ?_
 show List.Nodup (["row"] : List Str); decide
 rfl
 exact Or.inl rfl
 exact Or.inr rfl
 intro L s0 H0 fp pn
 exact Dx
 intro L s0 H0 fp pn
 refine Am ih.i_20 hr (by rfl) T.m_20 T.f_20.kp T.b_20 .nil Aj Kj (Ai rfl) ?_
 refine aa ?_ ?_
 exact Cu 0 (pv 0)
 exact Ab
 exact Ab
 exact qp
 intro _; rfl
 refine ae ?_ ?_
 refine dj ?_ ?_ ?_ T.nc_BadNames T.mc_BadNames T.xc_BadNames
 exact Dh
 exact hr.hd
 rfl
 exact ah
 exact ah
 exact ah
theorem afe : Fk Pr w K mg base fd cls FF (n + 1) 23 ["names"] 1 := by
 refine bc (m := 2 * n + 1) (body' := rn) T.f_23 adp rfl fun cdv A outer s H E hrm => ?_
 have hr := hrm.mono (show 2 * n ≤ 2 * n + 1 by omega)
 have hu := hr.units
 subst hw
 refine ae ?_ ?_
 refine ay ?_ ?_ ?_
 refine Bq ?_
 refine Bp ?_ ?_ ?_ ?_
 rfl
 refine Am ih.i_18 hr (by rfl) T.m_18 T.f_18.kp T.b_18 .nil Aj Ak (Ai rfl) ?_
 refine aa (sv adq) ?_
 exact Ab
 exact Dj
 intro _; rfl
 refine ae ?_ ?_
 refine dj ?_ ?_ ?_ T.nc_BadNames T.mc_BadNames T.xc_BadNames
 exact Dh
 exact hr.hd
 rfl
 exact ah
 exact ah
 exact ah
theorem aff : Fk Pr w K mg base fd cls FF (n + 1) 24 ["rows"] 1 := by
 refine bc (m := 2 * n + 1) (body' := Rn) T.f_24 ads rfl fun cdv A outer s H E hrm => ?_
 have hr := hrm.mono (show 2 * n ≤ 2 * n + 1 by omega)
 have hu := hr.units
 subst hw
 refine ae ?_ ?_
 refine Ao ?_
 refine ie (cl := []) (N := ["row"]) (nl := 1) (fv := []) (tgs := [0]) (one := true) (k := 0) ?_ ?_ ?_ ?_ ?_ ?_ ?_ ?_ ?_ ?_ ?_ ?_ ?_ ?_
 rfl
 rfl
 rfl
 decide
 decide
 rfl
 refine Dy trivial ?_
 rfl
 rfl
 exact dz trivial
 decide
 refine fj ?_ ?_
 rfl
 exact sv adt
 intro L s0 H0 fp pn
 refine Cr ?_ ?_ ?_ ?_
 show List.Nodup (["row"] : List Str); decide
 rfl
 exact Or.inl rfl
 exact Or.inr rfl
 intro L s0 H0 fp pn
 exact Dx
 intro L s0 H0 fp pn
 refine Bm ?_ ?_ ?_ ?_ ?_ ?_
 rfl
 rfl
 exact hu
 exact Cu 0 (pv 0)
 exact Ae
 intro _ _; rfl
 exact ah
theorem afg : Fk Pr w K mg base fd cls FF (n + 1) 25 ["names"] 1 := by
 refine bc (m := 2 * n + 1) (body' := ro) T.f_25 adu rfl fun cdv A outer s H E hrm => ?_
 have hr := hrm.mono (show 2 * n ≤ 2 * n + 1 by omega)
 have hu := hr.units
 subst hw
 refine ae ?_ ?_
 refine ay ?_ ?_ ?_
 refine ej ?_ ?_ ?_ ?_
 rfl
 exact hu
 refine Zk ?_ ?_ ?_ T.z_len ?_ T.z_set ?_
 rfl
 rfl
 rfl
 rfl
 exact sv sh
 refine Ek ?_ ?_ T.z_len ?_
 rfl
 rfl
 refine aa (sv sh) ?_
 exact Ab
 refine ae ?_ ?_
 refine dj ?_ ?_ ?_ T.nc_BadNames T.mc_BadNames T.xc_BadNames
 exact Dh
 exact hr.hd
 rfl
 exact ah
 exact ah
 exact ah
theorem afh : Fk Pr w K mg base fd cls FF (n + 1) 26 ["self", "numbers", "wholes", "things", "functions", "arrays"] 6 := by
 refine bc (m := 2 * n + 1) (body' := Ro) T.f_26 Sh rfl fun cdv A outer s H E hrm => ?_
 have hr := hrm.mono (show 2 * n ≤ 2 * n + 1 by omega)
 have hu := hr.units
 subst hw
 refine ae ?_ ?_
 refine Yj (is := [6]) ?_ ?_ ?_ ?_ ?_ ?_
 rfl
 exact PassesOwn.leaving
 rfl
 refine Ag ?_
 refine aa (sv ky) ?_
 refine aa (sv Ky) ?_
 refine aa (sv Kz) ?_
 exact Ab
 refine Cr Sh.nd ?_ ?_
 rfl
 exact Or.inl si
 refine ae ?_ ?_
 refine Df ?_
 refine Am ih.i_23 hr (by rfl) T.m_23 T.f_23.kp T.b_23 .nil Aj Ak (Ai rfl) ?_
 refine aa (sv si) ?_
 exact Ab
 exact ah
 refine ae ?_ ?_
 refine Df ?_
 refine Am ih.i_21 hr (by rfl) T.m_21 T.f_21.kp T.b_21 .nil Aj Ak (Ai rfl) ?_
 refine aa (sv jj) ?_
 exact Ab
 refine ae ?_ ?_
 refine Df ?_
 refine Am ih.i_22 hr (by rfl) T.m_22 T.f_22.kp T.b_22 .nil Aj Ak (Ai rfl) ?_
 refine aa (sv kz) ?_
 exact Ab
 refine ae ?_ ?_
 refine Df ?_
 refine Am ih.i_25 hr (by rfl) T.m_25 T.f_25.kp T.b_25 .nil Aj Ak (Ai rfl) ?_
 refine aa ?_ ?_
 refine Bf ?_ ?_
 refine Bf ?_ ?_
 refine Bf ?_ ?_
 refine Bf (sv ky) ?_
 refine Am ih.i_24 hr (by rfl) T.m_24 T.f_24.kp T.b_24 .nil Aj Ak (Ai rfl) ?_
 refine aa (sv jj) ?_
 exact Ab
 exact sv Ky
 refine Am ih.i_24 hr (by rfl) T.m_24 T.f_24.kp T.b_24 .nil Aj Ak (Ai rfl) ?_
 refine aa (sv kz) ?_
 exact Ab
 exact sv Kz
 exact Ab
 refine ae ?_ ?_
 refine fy T.cl_Names T.na_Names_numbers (sv Ey) ?_
 refine jc ?_ ?_ T.z_list ?_
 rfl
 rfl
 refine aa (sv ky) ?_
 exact Ab
 refine ae ?_ ?_
 refine fy T.cl_Names T.na_Names_wholes (sv Ey) ?_
 refine jc ?_ ?_ T.z_list ?_
 rfl
 rfl
 refine aa (sv jj) ?_
 exact Ab
 refine ae ?_ ?_
 refine fy T.cl_Names T.na_Names_things (sv Ey) ?_
 refine jc ?_ ?_ T.z_list ?_
 rfl
 rfl
 refine aa (sv Ky) ?_
 exact Ab
 refine ae ?_ ?_
 refine fy T.cl_Names T.na_Names_functions (sv Ey) ?_
 refine jc ?_ ?_ T.z_list ?_
 rfl
 rfl
 refine aa (sv kz) ?_
 exact Ab
 refine ae ?_ ?_
 refine fy T.cl_Names T.na_Names_arrays (sv Ey) ?_
 refine jc ?_ ?_ T.z_list ?_
 rfl
 rfl
 refine aa (sv Kz) ?_
 exact Ab
 refine ae ?_ ?_
 refine fy T.cl_Names T.na_Names_limits (sv Ey) ?_
 refine Jd (cl := []) (N := ["name", "low", "high"]) (nl := 3) (fv := []) (tgs := [0, 1, 2]) (one := false) (k := 0) ?_ ?_ ?_ ?_ ?_ ?_ ?_ ?_ ?_ ?_ ?_ ?_ ?_ ?_ ?_
 rfl
 rfl
 rfl
 decide
 decide
 rfl
 refine Dy trivial ?_
 rfl
 rfl
 exact dz trivial
 decide
 refine fj ?_ ?_
 rfl
 exact sv jj
 intro L s0 H0 fp pn
 refine Bv ?_ ?_
 rfl
 refine Aw ?_ ?_
 refine Ax (i := 0) ?_ ?_ ?_ ?_
 show List.Nodup (["name", "low", "high"] : List Str); decide
 rfl
 exact Or.inl rfl
 exact Or.inr rfl
 refine Aw ?_ ?_
 refine Ax (i := 1) ?_ ?_ ?_ ?_
 show List.Nodup (["name", "low", "high"] : List Str); decide
 rfl
 exact Or.inl rfl
 exact Or.inr rfl
 refine Aw ?_ ?_
 refine Ax (i := 2) ?_ ?_ ?_ ?_
 show List.Nodup (["name", "low", "high"] : List Str); decide
 rfl
 exact Or.inl rfl
 exact Or.inr rfl
 exact Bu
 intro L s0 H0 fp pn
 exact Dx
 intro L s0 H0 fp pn
 exact Cu 0 (pv 0)
 intro L s0 H0 fp pn
 refine Ag ?_
 refine aa ?_ ?_
 exact Cu 1 (pv 1)
 refine aa ?_ ?_
 exact Cu 2 (pv 2)
 exact Ab
 refine ae ?_ ?_
 refine fy T.cl_Names T.na_Names_deeds (sv Ey) ?_
 refine Jd (cl := []) (N := ["name", "kinds", "kind"]) (nl := 3) (fv := []) (tgs := [0, 1, 2]) (one := false) (k := 0) ?_ ?_ ?_ ?_ ?_ ?_ ?_ ?_ ?_ ?_ ?_ ?_ ?_ ?_ ?_
 rfl
 rfl
 rfl
 decide
 decide
 rfl
 refine Dy trivial ?_
 rfl
 rfl
 exact dz trivial
 decide
 refine fj ?_ ?_
 rfl
 exact sv kz
 intro L s0 H0 fp pn
 refine Bv ?_ ?_
 rfl
 refine Aw ?_ ?_
 refine Ax (i := 0) ?_ ?_ ?_ ?_
 show List.Nodup (["name", "kinds", "kind"] : List Str); decide
 rfl
 exact Or.inl rfl
 exact Or.inr rfl
 refine Aw ?_ ?_
 refine Ax (i := 1) ?_ ?_ ?_ ?_
 show List.Nodup (["name", "kinds", "kind"] : List Str); decide
 rfl
 exact Or.inl rfl
 exact Or.inr rfl
 refine Aw ?_ ?_
 refine Ax (i := 2) ?_ ?_ ?_ ?_
 show List.Nodup (["name", "kinds", "kind"] : List Str); decide
 rfl
 exact Or.inl rfl
 exact Or.inr rfl
 exact Bu
 intro L s0 H0 fp pn
 exact Dx
 intro L s0 H0 fp pn
 exact Cu 0 (pv 0)
 intro L s0 H0 fp pn
 refine Ag ?_
 refine aa ?_ ?_
 exact Cu 1 (pv 1)
 refine aa ?_ ?_
 exact Cu 2 (pv 2)
 exact Ab
 refine ae ?_ ?_
 refine fy T.cl_Names T.na_Names_unknowns (sv Ey) ?_
 refine Jd (cl := []) (N := ["name"]) (nl := 1) (fv := []) (tgs := [0]) (one := true) (k := 0) ?_ ?_ ?_ ?_ ?_ ?_ ?_ ?_ ?_ ?_ ?_ ?_ ?_ ?_ ?_
 rfl
 rfl
 rfl
 decide
 decide
 rfl
 refine Dy trivial ?_
 rfl
 rfl
 exact dz trivial
 decide
 refine fj ?_ ?_
 rfl
 refine Bf (sv ky) ?_
 refine Am ih.i_24 hr (by rfl) T.m_24 T.f_24.kp T.b_24 .nil Aj Ak (Ai rfl) ?_
 refine aa (sv jj) ?_
 exact Ab
 intro L s0 H0 fp pn
 refine Cr ?_ ?_ ?_ ?_
 show List.Nodup (["name"] : List Str); decide
 rfl
 exact Or.inl rfl
 exact Or.inr rfl
 intro L s0 H0 fp pn
 exact Dx
 intro L s0 H0 fp pn
 exact Cu 0 (pv 0)
 intro L s0 H0 fp pn
 exact ag
 refine ae ?_ ?_
 refine Df ?_
 refine Qo ?_ ?_
 exact kf T.cl_Names T.na_Names_unknowns (sv Ey)
 refine Jd (cl := []) (N := ["name"]) (nl := 1) (fv := []) (tgs := [0]) (one := true) (k := 0) ?_ ?_ ?_ ?_ ?_ ?_ ?_ ?_ ?_ ?_ ?_ ?_ ?_ ?_ ?_
 rfl
 rfl
 rfl
 decide
 decide
 rfl
 refine Dy trivial ?_
 rfl
 rfl
 exact dz trivial
 decide
 refine fj ?_ ?_
 rfl
 exact sv Ky
 intro L s0 H0 fp pn
 refine Cr ?_ ?_ ?_ ?_
 show List.Nodup (["name"] : List Str); decide
 rfl
 exact Or.inl rfl
 exact Or.inr rfl
 intro L s0 H0 fp pn
 exact Dx
 intro L s0 H0 fp pn
 exact Cu 0 (pv 0)
 intro L s0 H0 fp pn
 exact ag
 refine ae ?_ ?_
 refine Df ?_
 refine Qo ?_ ?_
 exact kf T.cl_Names T.na_Names_unknowns (sv Ey)
 refine Jd (cl := []) (N := ["name"]) (nl := 1) (fv := []) (tgs := [0]) (one := true) (k := 0) ?_ ?_ ?_ ?_ ?_ ?_ ?_ ?_ ?_ ?_ ?_ ?_ ?_ ?_ ?_
 rfl
 rfl
 rfl
 decide
 decide
 rfl
 refine Dy trivial ?_
 rfl
 rfl
 exact dz trivial
 decide
 refine fj ?_ ?_
 rfl
 exact sv Kz
 intro L s0 H0 fp pn
 refine Cr ?_ ?_ ?_ ?_
 show List.Nodup (["name"] : List Str); decide
 rfl
 exact Or.inl rfl
 exact Or.inr rfl
 intro L s0 H0 fp pn
 exact Dx
 intro L s0 H0 fp pn
 exact Cu 0 (pv 0)
 intro L s0 H0 fp pn
 exact ag
 exact ah
theorem afi : Fk Pr w K mg base fd cls FF (n + 1) 32 ["self", "name"] 2 := by
 refine bc (m := 2 * n + 1) (body' := Il) T.f_32 adv rfl fun cdv A outer s H E hrm => ?_
 have hr := hrm.mono (show 2 * n ≤ 2 * n + 1 by omega)
 have hu := hr.units
 subst hw
 refine ae ?_ ?_
 refine Ao ?_
 refine Pw ?_ ?_ ?_
 refine Bp ?_ ?_ ?_ ?_
 rfl
 refine Cv ?_ ?_ ?_ ?_ T.z_isinstance ?_ T.z_str ?_ ?_
 rfl
 decide
 exact fun n => cx (n := n) (x := "str") (by decide)
 rfl
 rfl
 rfl
 exact sv Si
 exact dy
 intro _; rfl
 refine qo hu ?_ ?_ ?_
 exact kf T.cl_Names T.na_Names_unknowns (sv adw)
 exact sv Si
 exact ⟨by rfl, by rfl, by rfl, by rfl⟩
 exact fh
 exact ah
theorem afj : Fk Pr w K mg base fd cls FF (n + 1) 34 ["self", "name"] 2 := by
 refine bc (m := 2 * n + 1) (body' := Im) T.f_34 adx rfl fun cdv A outer s H E hrm => ?_
 have hr := hrm.mono (show 2 * n ≤ 2 * n + 1 by omega)
 have hu := hr.units
 subst hw
 refine ae ?_ ?_
 refine Ao ?_
 refine Pw ?_ ?_ ?_
 refine Bp ?_ ?_ ?_ ?_
 rfl
 refine Cv ?_ ?_ ?_ ?_ T.z_isinstance ?_ T.z_str ?_ ?_
 rfl
 decide
 exact fun n => cx (n := n) (x := "str") (by decide)
 rfl
 rfl
 rfl
 exact sv sj
 exact dy
 intro _; rfl
 refine qo hu ?_ ?_ ?_
 exact kf T.cl_Names T.na_Names_deeds (sv ady)
 exact sv sj
 exact ⟨by rfl, by rfl, by rfl, by rfl⟩
 exact fh
 exact ah
theorem afk : Fk Pr w K mg base fd cls FF (n + 1) 35 ["_law_script", "_law_k"] 2 := by
 refine bc (m := 2 * n + 1) (body' := km) T.f_35 adz rfl fun cdv A outer s H E hrm => ?_
 have hr := hrm.mono (show 2 * n ≤ 2 * n + 1 by omega)
 have hu := hr.units
 subst hw
 refine ae ?_ ?_
 refine ay ?_ ?_ ?_
 refine jb (sv sk) ?_
 refine Ek ?_ ?_ T.z_len ?_
 rfl
 rfl
 refine aa (sv Sj) ?_
 exact Ab
 refine ae ?_ ?_
 refine Ao ?_
 refine Bm ?_ ?_ ?_ ?_ ?_ ?_
 rfl
 rfl
 exact hu
 exact sv Sj
 exact sv sk
 intro _ _; rfl
 exact ah
 exact ah
 refine ae ?_ ?_
 exact Ao Ae
 exact ah
theorem afl : Fk Pr w K mg base fd cls FF (n + 1) 36 ["_law_cell"] 1 := by
 refine bc (m := 2 * n + 1) (body' := Km) T.f_36 Hh rfl fun cdv A outer s H E hrm => ?_
 have hr := hrm.mono (show 2 * n ≤ 2 * n + 1 by omega)
 have hu := hr.units
 subst hw
 refine ae ?_ ?_
 refine ay ?_ ?_ ?_
 refine ya (sv Ng) ?_
 exact ly Ae Ae
 refine ae ?_ ?_
 refine Ao ?_
 refine Cb (sv Ng) ?_
 exact ly Ae Ae
 exact ah
 exact ah
 refine ae ?_ ?_
 refine Av (i := 1) ?_ ?_ ?_ ?_
 exact Hh.nd
 rfl
 exact Or.inl la
 exact Ae
 refine ae ?_ ?_
 refine Av (i := 2) ?_ ?_ ?_ ?_
 exact Hh.nd
 rfl
 exact Or.inl Fp
 refine Bf ?_ ?_
 refine Bh (sv Ng) ?_
 exact Ae
 exact Ae
 refine ae ?_ ?_
 refine Ke (is := [3]) ?_ ?_ ?_ T.z_range ?_ ?_ ?_
 exact PassesOwn.leaving
 rfl
 rfl
 exact Ae
 refine Cr Hh.nd ?_ ?_
 rfl
 exact Or.inl nh
 refine ae ?_ ?_
 refine Av (i := 2) ?_ ?_ ?_ ?_
 exact Hh.nd
 rfl
 exact Or.inl Fp
 refine Bh ?_ ?_
 refine Bf ?_ ?_
 refine Bf ?_ ?_
 refine Fh ?_ ?_ ?_
 rfl
 exact sv Fp
 exact sv Fp
 refine Fh ?_ ?_ ?_
 rfl
 exact Ae
 exact sv Fp
 refine Fh ?_ ?_ ?_
 rfl
 refine Fh ?_ ?_ ?_
 rfl
 exact Ae
 exact sv nh
 exact sv nh
 exact Ae
 refine ae ?_ ?_
 refine Av (i := 2) ?_ ?_ ?_ ?_
 exact Hh.nd
 rfl
 exact Or.inl Fp
 refine Bh ?_ ?_
 refine Fh ?_ ?_ ?_
 rfl
 exact sv Fp
 refine Bf ?_ ?_
 refine Cj (sv Fp) ?_
 exact Ae
 exact Ae
 exact Ae
 refine ae ?_ ?_
 refine Av (i := 1) ?_ ?_ ?_ ?_
 exact Hh.nd
 rfl
 exact Or.inl la
 refine Bf ?_ ?_
 refine Fh ?_ ?_ ?_
 rfl
 exact sv la
 exact Ae
 exact sv Fp
 exact ah
 refine ae ?_ ?_
 exact Ao (sv la)
 exact ah
theorem afm : Fk Pr w K mg base fd cls FF (n + 1) 37 [] 0 := by
 refine bc (m := 2 * n + 1) (body' := Rp) T.f_37 Sk rfl fun cdv A outer s H E hrm => ?_
 have hr := hrm.mono (show 2 * n ≤ 2 * n + 1 by omega)
 have hu := hr.units
 subst hw
 refine ae ?_ ?_
 refine Av (i := 0) ?_ ?_ ?_ ?_
 exact Sk.nd
 rfl
 exact Or.inl Nh
 refine bf ?_
 refine aa ?_ ?_
 refine Ag ?_
 refine aa ag ?_
 refine aa ?_ ?_
 refine Ag ?_
 exact aa ag Ab
 exact aa ag Ab
 refine aa ?_ ?_
 refine Ag ?_
 refine aa ag ?_
 refine aa ?_ ?_
 refine Ag ?_
 refine aa ag ?_
 exact aa ag Ab
 exact aa ag Ab
 refine aa ?_ ?_
 refine Ag ?_
 refine aa ag ?_
 refine aa ?_ ?_
 refine Ag ?_
 exact aa ag Ab
 exact aa ag Ab
 exact Ab
 refine ae ?_ ?_
 refine Df ?_
 refine qc ?_ ?_ ?_
 rfl
 exact sv Nh
 refine Ag ?_
 refine aa ag ?_
 refine aa ?_ ?_
 refine Ag ?_
 refine aa ag ?_
 refine aa ag ?_
 exact aa ag Ab
 exact aa ag Ab
 refine ae ?_ ?_
 refine Ao ?_
 refine Yw (k := 2 * n) (np := 6) T.k_Names ?_ ?_ ?_ T.mc_Names T.b_26 ?_ ?_ ?_
 exact ih.i_26
 exact hrm
 rfl
 exact Ak
 exact Ai rfl
 refine aa ?_ ?_
 refine bf ?_
 refine aa ag ?_
 refine aa ag ?_
 exact aa ag Ab
 refine aa ?_ ?_
 refine bf ?_
 refine aa ?_ ?_
 refine Ag ?_
 refine aa ag ?_
 refine aa Ae ?_
 exact aa Ae Ab
 refine aa ?_ ?_
 refine Ag ?_
 refine aa ag ?_
 refine aa ?_ ?_
 exact Cb Ae Ae
 exact aa Ae Ab
 exact Ab
 refine aa ?_ ?_
 refine bf ?_
 refine aa ag ?_
 refine aa ag ?_
 exact aa ag Ab
 refine aa (sv Nh) ?_
 refine aa ?_ ?_
 refine bf ?_
 refine aa ag ?_
 exact aa ag Ab
 exact Ab
 exact ah
theorem afn : Fk Pr w K mg base fd cls FF (n + 1) 38 ["_law_number", "_law_deep_here"] 2 := by
 refine bc (m := 2 * n + 1) (body' := Kn) T.f_38 Eb rfl fun cdv A outer s H E hrm => ?_
 have hr := hrm.mono (show 2 * n ≤ 2 * n + 1 by omega)
 have hu := hr.units
 subst hw
 refine ae ?_ ?_
 refine Av (i := 2) ?_ ?_ ?_ ?_
 exact Eb.nd
 rfl
 exact Or.inl ni
 refine Bh (sv Dd) ?_
 exact Ae
 refine ae ?_ ?_
 refine Av (i := 0) ?_ ?_ ?_ ?_
 exact Eb.nd
 rfl
 exact Or.inl Dd
 refine Cj (sv Dd) ?_
 exact Ae
 refine ae ?_ ?_
 refine ay ?_ ?_ ?_
 refine PW.pt ?_
 refine ck ?_ ?_
 refine Cq ?_ ?_ ?_ ?_
 rfl
 exact hu
 exact sv Jj
 exact Ae
 refine di ?_
 refine jb (sv ni) ?_
 exact Ae
 refine ae ?_ ?_
 refine Ao ?_
 refine Ag ?_
 refine aa ?_ ?_
 refine Ag ?_
 refine aa ag ?_
 refine aa ?_ ?_
 refine Bm ?_ ?_ ?_ ?_ ?_ ?_
 rfl
 rfl
 exact hu
 refine bf ?_
 refine aa ag ?_
 refine aa ag ?_
 exact aa ag Ab
 refine Bh (sv Dd) ?_
 exact Ae
 intro _ _; rfl
 exact Ab
 refine aa ?_ ?_
 refine Cj (sv Dd) ?_
 exact Ae
 exact Ab
 exact ah
 exact ah
 refine ae ?_ ?_
 refine ay ?_ ?_ ?_
 refine Cq ?_ ?_ ?_ ?_
 rfl
 exact hu
 exact sv ni
 exact Ae
 refine ae ?_ ?_
 refine Ck (is := [3, 0]) ?_ ?_
 refine Am ih.i_38 hr (by rfl) T.m_38 T.f_38.kp T.b_38 .nil Aj Ak (Ai rfl) ?_
 refine aa (sv Dd) ?_
 refine aa ?_ ?_
 refine Cb (sv Jj) ?_
 exact Ae
 exact Ab
 refine Bv ?_ ?_
 rfl
 refine Aw ?_ ?_
 refine Ax (i := 3) ?_ ?_ ?_
 exact Eb.nd
 rfl
 exact Or.inl Sl
 refine Aw ?_ ?_
 refine Ax (i := 0) ?_ ?_ ?_
 exact Eb.nd
 rfl
 exact Or.inl Dd
 exact Bu
 refine ae ?_ ?_
 refine Ao ?_
 refine Ag ?_
 refine aa ?_ ?_
 refine Ag ?_
 refine aa ag ?_
 refine aa ag ?_
 refine aa ?_ ?_
 refine Ag ?_
 refine aa (sv Sl) ?_
 exact Ab
 exact Ab
 refine aa (sv Dd) ?_
 exact Ab
 exact ah
 exact ah
 refine ae ?_ ?_
 refine Ck (is := [4, 0]) ?_ ?_
 refine Am ih.i_38 hr (by rfl) T.m_38 T.f_38.kp T.b_38 .nil Aj Ak (Ai rfl) ?_
 refine aa (sv Dd) ?_
 refine aa ?_ ?_
 refine Cb (sv Jj) ?_
 exact Ae
 exact Ab
 refine Bv ?_ ?_
 rfl
 refine Aw ?_ ?_
 refine Ax (i := 4) ?_ ?_ ?_
 exact Eb.nd
 rfl
 exact Or.inl sm
 refine Aw ?_ ?_
 refine Ax (i := 0) ?_ ?_ ?_
 exact Eb.nd
 rfl
 exact Or.inl Dd
 exact Bu
 refine ae ?_ ?_
 refine Ck (is := [5, 0]) ?_ ?_
 refine Am ih.i_41 hr (by rfl) T.m_41 T.f_41.kp T.b_41 .nil Aj Ak (Ai rfl) ?_
 refine aa (sv Dd) ?_
 refine aa ?_ ?_
 refine Cb (sv Jj) ?_
 exact Ae
 exact Ab
 refine Bv ?_ ?_
 rfl
 refine Aw ?_ ?_
 refine Ax (i := 5) ?_ ?_ ?_
 exact Eb.nd
 rfl
 exact Or.inl Sm
 refine Aw ?_ ?_
 refine Ax (i := 0) ?_ ?_ ?_
 exact Eb.nd
 rfl
 exact Or.inl Dd
 exact Bu
 refine ae ?_ ?_
 refine Ck (is := [6, 0]) ?_ ?_
 refine Am ih.i_41 hr (by rfl) T.m_41 T.f_41.kp T.b_41 .nil Aj Ak (Ai rfl) ?_
 refine aa (sv Dd) ?_
 refine aa ?_ ?_
 refine Cb (sv Jj) ?_
 exact Ae
 exact Ab
 refine Bv ?_ ?_
 rfl
 refine Aw ?_ ?_
 refine Ax (i := 6) ?_ ?_ ?_
 exact Eb.nd
 rfl
 exact Or.inl Sn
 refine Aw ?_ ?_
 refine Ax (i := 0) ?_ ?_ ?_
 exact Eb.nd
 rfl
 exact Or.inl Dd
 exact Bu
 refine ae ?_ ?_
 refine Ao ?_
 refine Ag ?_
 refine aa ?_ ?_
 refine Ag ?_
 refine aa ag ?_
 refine aa ag ?_
 refine aa ?_ ?_
 refine Ag ?_
 refine aa (sv sm) ?_
 refine aa (sv Sm) ?_
 refine aa (sv Sn) ?_
 exact Ab
 exact Ab
 refine aa (sv Dd) ?_
 exact Ab
 exact ah
theorem afo : Fk Pr w K mg base fd cls FF (n + 1) 39 ["_law_number", "_law_deep_here"] 2 := by
 refine bc (m := 2 * n + 1) (body' := ko) T.f_39 fq rfl fun cdv A outer s H E hrm => ?_
 have hr := hrm.mono (show 2 * n ≤ 2 * n + 1 by omega)
 have hu := hr.units
 subst hw
 refine ae ?_ ?_
 refine Av (i := 2) ?_ ?_ ?_ ?_
 exact fq.nd
 rfl
 exact Or.inl so
 refine Bh (sv Dv) ?_
 exact Ae
 refine ae ?_ ?_
 refine Av (i := 0) ?_ ?_ ?_ ?_
 exact fq.nd
 rfl
 exact Or.inl Dv
 refine Cj (sv Dv) ?_
 exact Ae
 refine ae ?_ ?_
 refine ay ?_ ?_ ?_
 refine PW.pt ?_
 refine ck ?_ ?_
 refine Cq ?_ ?_ ?_ ?_
 rfl
 exact hu
 exact sv La
 exact Ae
 refine di ?_
 refine Cq ?_ ?_ ?_ ?_
 rfl
 exact hu
 exact sv so
 exact Ae
 refine ae ?_ ?_
 refine Ao ?_
 refine Ag ?_
 refine aa ?_ ?_
 refine Ag ?_
 refine aa ag ?_
 refine aa ?_ ?_
 refine Bm ?_ ?_ ?_ ?_ ?_ ?_
 rfl
 rfl
 exact hu
 refine bf ?_
 refine aa ag ?_
 exact aa ag Ab
 refine Bh (sv Dv) ?_
 exact Ae
 intro _ _; rfl
 exact Ab
 refine aa ?_ ?_
 refine Cj (sv Dv) ?_
 exact Ae
 exact Ab
 exact ah
 exact ah
 refine ae ?_ ?_
 refine Ck (is := [3, 0]) ?_ ?_
 refine Am ih.i_39 hr (by rfl) T.m_39 T.f_39.kp T.b_39 .nil Aj Ak (Ai rfl) ?_
 refine aa (sv Dv) ?_
 refine aa ?_ ?_
 refine Cb (sv La) ?_
 exact Ae
 exact Ab
 refine Bv ?_ ?_
 rfl
 refine Aw ?_ ?_
 refine Ax (i := 3) ?_ ?_ ?_
 exact fq.nd
 rfl
 exact Or.inl So
 refine Aw ?_ ?_
 refine Ax (i := 0) ?_ ?_ ?_
 exact fq.nd
 rfl
 exact Or.inl Dv
 exact Bu
 refine ae ?_ ?_
 refine Ck (is := [4, 0]) ?_ ?_
 refine Am ih.i_41 hr (by rfl) T.m_41 T.f_41.kp T.b_41 .nil Aj Ak (Ai rfl) ?_
 refine aa (sv Dv) ?_
 refine aa ?_ ?_
 refine Cb (sv La) ?_
 exact Ae
 exact Ab
 refine Bv ?_ ?_
 rfl
 refine Aw ?_ ?_
 refine Ax (i := 4) ?_ ?_ ?_
 exact fq.nd
 rfl
 exact Or.inl Sq
 refine Aw ?_ ?_
 refine Ax (i := 0) ?_ ?_ ?_
 exact fq.nd
 rfl
 exact Or.inl Dv
 exact Bu
 refine ae ?_ ?_
 refine Ck (is := [5, 0]) ?_ ?_
 refine Am ih.i_41 hr (by rfl) T.m_41 T.f_41.kp T.b_41 .nil Aj Ak (Ai rfl) ?_
 refine aa (sv Dv) ?_
 refine aa ?_ ?_
 refine Cb (sv La) ?_
 exact Ae
 exact Ab
 refine Bv ?_ ?_
 rfl
 refine Aw ?_ ?_
 refine Ax (i := 5) ?_ ?_ ?_
 exact fq.nd
 rfl
 exact Or.inl sr
 refine Aw ?_ ?_
 refine Ax (i := 0) ?_ ?_ ?_
 exact fq.nd
 rfl
 exact Or.inl Dv
 exact Bu
 refine ae ?_ ?_
 refine Ao ?_
 refine Ag ?_
 refine aa ?_ ?_
 refine Ag ?_
 refine aa ag ?_
 refine aa (sv So) ?_
 refine aa (sv Sq) ?_
 refine aa (sv sr) ?_
 exact Ab
 refine aa (sv Dv) ?_
 exact Ab
 exact ah
theorem afp : Fk Pr w K mg base fd cls FF (n + 1) 40 ["_law_number"] 1 := by
 refine bc (m := 2 * n + 1) (body' := Ko) T.f_40 Sr rfl fun cdv A outer s H E hrm => ?_
 have hr := hrm.mono (show 2 * n ≤ 2 * n + 1 by omega)
 have hu := hr.units
 subst hw
 refine ae ?_ ?_
 refine Av (i := 1) ?_ ?_ ?_ ?_
 exact Sr.nd
 rfl
 exact Or.inl su
 refine bf ?_
 refine aa ?_ ?_
 refine Ag ?_
 refine aa ?_ ?_
 refine Cb ?_ ?_
 refine Bh (sv jk) ?_
 exact Ae
 exact Ae
 exact aa Ae Ab
 refine aa ?_ ?_
 refine Ag ?_
 refine aa ?_ ?_
 refine Cb ?_ ?_
 refine Fh ?_ ?_ ?_
 rfl
 exact Ae
 refine Bh (sv jk) ?_
 exact Ae
 exact Ae
 exact aa Ae Ab
 refine aa ?_ ?_
 refine Ag ?_
 refine aa ?_ ?_
 refine Bf Ae ?_
 refine Fh ?_ ?_ ?_
 rfl
 exact Ae
 refine Bh (sv jk) ?_
 exact Ae
 exact aa Ae Ab
 refine aa ?_ ?_
 refine Ag ?_
 refine aa ?_ ?_
 refine Bh (sv jk) ?_
 exact ly Ae Ae
 exact aa Ae Ab
 exact Ab
 refine ae ?_ ?_
 refine Ao ?_
 refine Bm ?_ ?_ ?_ ?_ ?_ ?_
 rfl
 rfl
 exact hu
 exact sv su
 refine Bh (sv jk) ?_
 exact Ae
 intro _ _; rfl
 exact ah
theorem afq : Fk Pr w K mg base fd cls FF (n + 1) 41 ["_law_number", "_law_deep_here"] 2 := by
 refine bc (m := 2 * n + 1) (body' := Io) T.f_41 Ci rfl fun cdv A outer s H E hrm => ?_
 have hr := hrm.mono (show 2 * n ≤ 2 * n + 1 by omega)
 have hu := hr.units
 subst hw
 refine ae ?_ ?_
 refine Av (i := 2) ?_ ?_ ?_ ?_
 exact Ci.nd
 rfl
 exact Or.inl Fq
 refine Bh (sv Bx) ?_
 exact Ae
 refine ae ?_ ?_
 refine Av (i := 0) ?_ ?_ ?_ ?_
 exact Ci.nd
 rfl
 exact Or.inl Bx
 refine Cj (sv Bx) ?_
 exact Ae
 refine ae ?_ ?_
 refine ay ?_ ?_ ?_
 refine PW.pt ?_
 refine yg ?_ ?_
 refine Cq ?_ ?_ ?_ ?_
 rfl
 exact hu
 exact sv Hi
 exact Ae
 refine Yf ?_
 refine Pq (sv Fq) ?_
 exact Ae
 refine ae ?_ ?_
 refine Av (i := 2) ?_ ?_ ?_ ?_
 exact Ci.nd
 rfl
 exact Or.inl Fq
 refine Cb (sv Fq) ?_
 exact Ae
 exact ah
 exact ah
 refine ae ?_ ?_
 refine ay ?_ ?_ ?_
 refine jb (sv Fq) ?_
 exact Ae
 refine ae ?_ ?_
 refine Ao ?_
 refine Ag ?_
 refine aa ?_ ?_
 refine Ag ?_
 refine aa ag ?_
 refine aa ?_ ?_
 refine Bm ?_ ?_ ?_ ?_ ?_ ?_
 rfl
 rfl
 exact hu
 refine bf ?_
 refine aa ag ?_
 refine aa ag ?_
 refine aa ag ?_
 refine aa ag ?_
 exact aa ag Ab
 refine Bh (sv Bx) ?_
 exact Ae
 intro _ _; rfl
 exact Ab
 refine aa ?_ ?_
 refine Cj (sv Bx) ?_
 exact Ae
 exact Ab
 exact ah
 exact ah
 refine ae ?_ ?_
 refine ay ?_ ?_ ?_
 refine jb (sv Fq) ?_
 exact Ae
 refine ae ?_ ?_
 refine Ao ?_
 refine Ag ?_
 refine aa ?_ ?_
 refine Ag ?_
 refine aa ag ?_
 refine aa ?_ ?_
 refine Am ih.i_40 hr (by rfl) T.m_40 T.f_40.kp T.b_40 .nil Aj Ak (Ai rfl) ?_
 refine aa ?_ ?_
 refine Bh (sv Bx) ?_
 exact Ae
 exact Ab
 exact Ab
 refine aa ?_ ?_
 refine Cj (sv Bx) ?_
 exact Ae
 exact Ab
 exact ah
 exact ah
 refine ae ?_ ?_
 refine ay ?_ ?_ ?_
 refine Cq ?_ ?_ ?_ ?_
 rfl
 exact hu
 exact sv Fq
 exact Ae
 refine ae ?_ ?_
 refine Ck (is := [3, 4]) ?_ ?_
 refine Am ih.i_41 hr (by rfl) T.m_41 T.f_41.kp T.b_41 .nil Aj Ak (Ai rfl) ?_
 refine aa ?_ ?_
 refine Cj (sv Bx) ?_
 exact Ae
 refine aa ?_ ?_
 refine Cb (sv Hi) ?_
 exact Ae
 exact Ab
 refine Bv ?_ ?_
 rfl
 refine Aw ?_ ?_
 refine Ax (i := 3) ?_ ?_ ?_
 exact Ci.nd
 rfl
 exact Or.inl lb
 refine Aw ?_ ?_
 refine Ax (i := 4) ?_ ?_ ?_
 exact Ci.nd
 rfl
 exact Or.inl ir
 exact Bu
 refine ae ?_ ?_
 refine Ao ?_
 refine Ag ?_
 refine aa ?_ ?_
 refine Ag ?_
 refine aa ag ?_
 refine aa ?_ ?_
 refine Am ih.i_40 hr (by rfl) T.m_40 T.f_40.kp T.b_40 .nil Aj Ak (Ai rfl) ?_
 refine aa ?_ ?_
 refine Bh (sv Bx) ?_
 exact Ae
 exact Ab
 refine aa (sv lb) ?_
 exact Ab
 refine aa (sv ir) ?_
 exact Ab
 exact ah
 exact ah
 refine ae ?_ ?_
 refine ay ?_ ?_ ?_
 refine Cq ?_ ?_ ?_ ?_
 rfl
 exact hu
 exact sv Fq
 exact Ae
 refine ae ?_ ?_
 refine Av (i := 5) ?_ ?_ ?_ ?_
 exact Ci.nd
 rfl
 exact Or.inl Ni
 exact bf Ab
 refine ae ?_ ?_
 refine Av (i := 4) ?_ ?_ ?_ ?_
 exact Ci.nd
 rfl
 exact Or.inl ir
 refine Cj (sv Bx) ?_
 exact Ae
 refine ae ?_ ?_
 refine Ke (is := [6]) ?_ ?_ ?_ T.z_range ?_ ?_ ?_
 exact PassesOwn.leaving
 rfl
 rfl
 refine Bh (sv Bx) ?_
 exact Ae
 refine Cr Ci.nd ?_ ?_
 rfl
 exact Or.inl aea
 refine ae ?_ ?_
 refine Ck (is := [7, 4]) ?_ ?_
 refine Am ih.i_41 hr (by rfl) T.m_41 T.f_41.kp T.b_41 .nil Aj Ak (Ai rfl) ?_
 refine aa (sv ir) ?_
 refine aa ?_ ?_
 refine Cb (sv Hi) ?_
 exact Ae
 exact Ab
 refine Bv ?_ ?_
 rfl
 refine Aw ?_ ?_
 refine Ax (i := 7) ?_ ?_ ?_
 exact Ci.nd
 rfl
 exact Or.inl Su
 refine Aw ?_ ?_
 refine Ax (i := 4) ?_ ?_ ?_
 exact Ci.nd
 rfl
 exact Or.inl ir
 exact Bu
 refine ae ?_ ?_
 refine Df ?_
 refine qc ?_ ?_ ?_
 rfl
 exact sv Ni
 exact sv Su
 exact ah
 refine ae ?_ ?_
 refine Ao ?_
 refine Ag ?_
 refine aa ?_ ?_
 refine Ag ?_
 refine aa ag ?_
 refine aa ?_ ?_
 refine yf ?_ ?_ T.z_tuple ?_
 rfl
 rfl
 refine aa (sv Ni) ?_
 exact Ab
 exact Ab
 refine aa (sv ir) ?_
 exact Ab
 exact ah
 exact ah
 refine ae ?_ ?_
 refine ay ?_ ?_ ?_
 refine Cq ?_ ?_ ?_ ?_
 rfl
 exact hu
 exact sv Fq
 exact Ae
 refine ae ?_ ?_
 refine Ck (is := [3, 0]) ?_ ?_
 refine Am ih.i_39 hr (by rfl) T.m_39 T.f_39.kp T.b_39 .nil Aj Ak (Ai rfl) ?_
 refine aa (sv Bx) ?_
 refine aa ?_ ?_
 refine Cb (sv Hi) ?_
 exact Ae
 exact Ab
 refine Bv ?_ ?_
 rfl
 refine Aw ?_ ?_
 refine Ax (i := 3) ?_ ?_ ?_
 exact Ci.nd
 rfl
 exact Or.inl lb
 refine Aw ?_ ?_
 refine Ax (i := 0) ?_ ?_ ?_
 exact Ci.nd
 rfl
 exact Or.inl Bx
 exact Bu
 refine ae ?_ ?_
 refine Ck (is := [8, 0]) ?_ ?_
 refine Am ih.i_41 hr (by rfl) T.m_41 T.f_41.kp T.b_41 .nil Aj Ak (Ai rfl) ?_
 refine aa (sv Bx) ?_
 refine aa ?_ ?_
 refine Cb (sv Hi) ?_
 exact Ae
 exact Ab
 refine Bv ?_ ?_
 rfl
 refine Aw ?_ ?_
 refine Ax (i := 8) ?_ ?_ ?_
 exact Ci.nd
 rfl
 exact Or.inl Sv
 refine Aw ?_ ?_
 refine Ax (i := 0) ?_ ?_ ?_
 exact Ci.nd
 rfl
 exact Or.inl Bx
 exact Bu
 refine ae ?_ ?_
 refine Ao ?_
 refine Ag ?_
 refine aa ?_ ?_
 refine Ag ?_
 refine aa ag ?_
 refine aa (sv lb) ?_
 refine aa (sv Sv) ?_
 exact Ab
 refine aa (sv Bx) ?_
 exact Ab
 exact ah
 exact ah
 refine ae ?_ ?_
 refine Ck (is := [9, 0]) ?_ ?_
 refine Am ih.i_41 hr (by rfl) T.m_41 T.f_41.kp T.b_41 .nil Aj Ak (Ai rfl) ?_
 refine aa ?_ ?_
 refine Cj (sv Bx) ?_
 exact Ae
 refine aa ?_ ?_
 refine Cb (sv Hi) ?_
 exact Ae
 exact Ab
 refine Bv ?_ ?_
 rfl
 refine Aw ?_ ?_
 refine Ax (i := 9) ?_ ?_ ?_
 exact Ci.nd
 rfl
 exact Or.inl nj
 refine Aw ?_ ?_
 refine Ax (i := 0) ?_ ?_ ?_
 exact Ci.nd
 rfl
 exact Or.inl Bx
 exact Bu
 refine ae ?_ ?_
 refine Ck (is := [10, 0]) ?_ ?_
 refine Am ih.i_38 hr (by rfl) T.m_38 T.f_38.kp T.b_38 .nil Aj Ak (Ai rfl) ?_
 refine aa (sv Bx) ?_
 refine aa ?_ ?_
 refine Cb (sv Hi) ?_
 exact Ae
 exact Ab
 refine Bv ?_ ?_
 rfl
 refine Aw ?_ ?_
 refine Ax (i := 10) ?_ ?_ ?_
 exact Ci.nd
 rfl
 exact Or.inl Sw
 refine Aw ?_ ?_
 refine Ax (i := 0) ?_ ?_ ?_
 exact Ci.nd
 rfl
 exact Or.inl Bx
 exact Bu
 refine ae ?_ ?_
 refine Ao ?_
 refine Ag ?_
 refine aa ?_ ?_
 refine Bm ?_ ?_ ?_ ?_ ?_ ?_
 rfl
 rfl
 exact hu
 refine bf ?_
 refine aa ?_ ?_
 refine Ag ?_
 refine aa ag ?_
 refine aa ag ?_
 refine aa ?_ ?_
 refine Ag ?_
 refine aa (sv nj) ?_
 exact Ab
 exact Ab
 refine aa ?_ ?_
 refine Ag ?_
 refine aa ag ?_
 refine aa ag ?_
 refine aa ?_ ?_
 refine Ag ?_
 refine aa (sv nj) ?_
 refine aa (sv Sw) ?_
 exact Ab
 exact Ab
 exact Ab
 refine Bh (sv Bx) ?_
 exact Ae
 intro _ _; rfl
 refine aa ?_ ?_
 refine Cj (sv Bx) ?_
 exact Ae
 exact Ab
 exact ah
theorem afr : Fk Pr w K mg base fd cls FF (n + 1) 42 ["_law_house_here", "_law_term"] 2 := by
 refine bc (m := 2 * n + 1) (body' := Kp) T.f_42 Jk rfl fun cdv A outer s H E hrm => ?_
 have hr := hrm.mono (show 2 * n ≤ 2 * n + 1 by omega)
 have hu := hr.units
 subst hw
 refine ae ?_ ?_
 refine yl (i := 2) (C := 0) ?_ ?_ ?_ ?_ ?_ ?_ ?_ ?_ T.mc_PartError T.x_PartError ?_ ?_
 intro _; rfl
 rfl
 rfl
 rfl
 exact Jk.nd
 rfl
 exact Fs
 rfl
 intro pn E0 xe0 hp0 hx0
 refine ae ?_ ?_
 refine Df ?_
 refine Am ih.i_5 hr (by rfl) T.m_5 T.f_5.kp T.b_5 .nil Aj hx0 (Ai rfl) ?_
 refine aa (sv aeb) ?_
 refine aa (sv aec) ?_
 exact Ab
 exact ah
 intro a
 refine ae ?_ ?_
 refine Av (i := 3) ?_ ?_ ?_ ?_
 exact Jk.nd
 rfl
 exact Or.inl Ir
 refine bf ?_
 refine aa ?_ ?_
 refine gu ?_ T.o_NoNumber ?_ T.z_isinstance ?_ T.mc_NoNumber ?_
 rfl
 rfl
 rfl
 exact sv Fs
 refine aa ?_ ?_
 refine gu ?_ T.o_BadNames ?_ T.z_isinstance ?_ T.mc_BadNames ?_
 rfl
 rfl
 rfl
 exact sv Fs
 exact Ab
 refine ae ?_ ?_
 refine Av (i := 3) ?_ ?_ ?_ ?_
 exact Jk.nd
 rfl
 exact Or.inl Ir
 refine Bf (sv Ir) ?_
 refine bf ?_
 refine aa ?_ ?_
 refine gu ?_ T.o_BadStatement ?_ T.z_isinstance ?_ T.mc_BadStatement ?_
 rfl
 rfl
 rfl
 exact sv Fs
 refine aa ?_ ?_
 refine gu ?_ T.o_NotTold ?_ T.z_isinstance ?_ T.mc_NotTold ?_
 rfl
 rfl
 rfl
 exact sv Fs
 exact Ab
 refine ae ?_ ?_
 refine Av (i := 3) ?_ ?_ ?_ ?_
 exact Jk.nd
 rfl
 exact Or.inl Ir
 refine Bf (sv Ir) ?_
 refine bf ?_
 refine aa ?_ ?_
 refine gu ?_ T.o_NoText ?_ T.z_isinstance ?_ T.mc_NoText ?_
 rfl
 rfl
 rfl
 exact sv Fs
 refine aa ?_ ?_
 refine gu ?_ T.o_NoRow ?_ T.z_isinstance ?_ T.mc_NoRow ?_
 rfl
 rfl
 rfl
 exact sv Fs
 exact Ab
 refine ae ?_ ?_
 refine Ao ?_
 refine Ej ?_ ?_
 refine gu ?_ T.o_BadTerm ?_ T.z_isinstance ?_ T.mc_BadTerm ?_
 rfl
 rfl
 rfl
 exact sv Fs
 refine Ej ?_ ?_
 refine yi ?_ ?_ ?_ T.o_ValueError ?_ T.z_isinstance ?_ T.z_ValueError ?_ ?_
 rfl
 decide
 decide
 rfl
 rfl
 rfl
 exact sv Fs
 refine fx ?_
 refine Yd ?_ ?_ ?_ ?_ ?_
 rfl
 rfl
 exact hu
 exact Dg
 exact sv Ir
 exact ah
 refine ae ?_ ?_
 exact Ao Dg
 exact ah
theorem afs : Fk Pr w K mg base fd cls FF (n + 1) 43 ["_law_num_here", "_law_thing_here", "_law_array_here", "_law_cell"] 4 := by
 refine bc (m := 2 * n + 1) (body' := kq) T.f_43 Co rfl fun cdv A outer s H E hrm => ?_
 have hr := hrm.mono (show 2 * n ≤ 2 * n + 1 by omega)
 have hu := hr.units
 subst hw
 refine ae ?_ ?_
 refine Av (i := 4) ?_ ?_ ?_ ?_
 exact Co.nd
 rfl
 exact Or.inl sx
 refine Ag ?_
 refine aa ag ?_
 refine aa ?_ ?_
 refine Ag ?_
 refine aa Ae ?_
 exact aa Ae Ab
 exact Ab
 refine ae ?_ ?_
 refine Av (i := 5) ?_ ?_ ?_ ?_
 exact Co.nd
 rfl
 exact Or.inl Bj
 refine bf ?_
 refine aa ?_ ?_
 exact Ag Ab
 refine aa fh ?_
 refine aa Ae ?_
 refine aa ag ?_
 refine aa ?_ ?_
 refine Ag ?_
 exact aa ag Ab
 refine aa ?_ ?_
 refine Ag ?_
 exact aa ag Ab
 refine aa ?_ ?_
 refine Ag ?_
 refine aa ag ?_
 exact aa Ae Ab
 exact Ab
 refine ae ?_ ?_
 refine Av (i := 5) ?_ ?_ ?_ ?_
 exact Co.nd
 rfl
 exact Or.inl Bj
 refine Bf (sv Bj) ?_
 refine bf ?_
 refine aa ?_ ?_
 refine Ag ?_
 refine aa ag ?_
 refine aa ?_ ?_
 refine Ag ?_
 refine aa Ae ?_
 exact aa Ae Ab
 exact Ab
 refine aa ?_ ?_
 refine Ag ?_
 refine aa ag ?_
 refine aa ?_ ?_
 refine Ag ?_
 refine aa Ae ?_
 exact aa Ae Ab
 exact Ab
 refine aa ?_ ?_
 refine Ag ?_
 refine aa ag ?_
 refine aa Ae ?_
 exact aa Ae Ab
 exact Ab
 refine ae ?_ ?_
 refine Av (i := 5) ?_ ?_ ?_ ?_
 exact Co.nd
 rfl
 exact Or.inl Bj
 refine Bf (sv Bj) ?_
 refine bf ?_
 refine aa ?_ ?_
 refine Ag ?_
 refine aa ag ?_
 exact aa ag Ab
 refine aa ?_ ?_
 refine Ag ?_
 refine aa ag ?_
 exact aa ag Ab
 refine aa ?_ ?_
 refine Ag ?_
 refine aa ag ?_
 exact aa fh Ab
 exact Ab
 refine ae ?_ ?_
 refine Av (i := 5) ?_ ?_ ?_ ?_
 exact Co.nd
 rfl
 exact Or.inl Bj
 refine Bf (sv Bj) ?_
 refine bf ?_
 refine aa ?_ ?_
 refine Ag ?_
 exact aa ag Ab
 refine aa ?_ ?_
 refine Ag ?_
 refine aa ag ?_
 refine aa ?_ ?_
 refine bf ?_
 exact aa ag Ab
 exact Ab
 refine aa ?_ ?_
 refine Ag ?_
 refine aa ag ?_
 exact aa ag Ab
 exact Ab
 refine ae ?_ ?_
 refine Av (i := 5) ?_ ?_ ?_ ?_
 exact Co.nd
 rfl
 exact Or.inl Bj
 refine Bf (sv Bj) ?_
 refine bf ?_
 refine aa ?_ ?_
 refine Ag ?_
 refine aa ag ?_
 refine aa Ae ?_
 refine aa (sv br) ?_
 exact Ab
 refine aa ?_ ?_
 refine Ag ?_
 refine aa ag ?_
 refine aa ?_ ?_
 refine Ag ?_
 refine aa Ae ?_
 exact aa Ae Ab
 exact Ab
 refine aa ?_ ?_
 refine Ag ?_
 refine aa ag ?_
 refine aa ?_ ?_
 refine Ag ?_
 refine aa Ae ?_
 exact aa Ae Ab
 refine aa (sv iu) ?_
 exact Ab
 exact Ab
 refine ae ?_ ?_
 refine Av (i := 5) ?_ ?_ ?_ ?_
 exact Co.nd
 rfl
 exact Or.inl Bj
 refine Bf (sv Bj) ?_
 refine bf ?_
 refine aa ?_ ?_
 refine Ag ?_
 refine aa ag ?_
 refine aa ?_ ?_
 refine Ag ?_
 refine aa Ae ?_
 exact aa Ae Ab
 refine aa (sv ft) ?_
 exact Ab
 refine aa ?_ ?_
 refine Ag ?_
 refine aa ag ?_
 refine aa (sv br) ?_
 refine aa ?_ ?_
 refine Ag ?_
 refine aa Ae ?_
 exact aa Ae Ab
 exact Ab
 exact Ab
 refine ae ?_ ?_
 refine Av (i := 5) ?_ ?_ ?_ ?_
 exact Co.nd
 rfl
 exact Or.inl Bj
 refine Bf (sv Bj) ?_
 refine bf ?_
 refine aa ?_ ?_
 refine Ag ?_
 refine aa ag ?_
 refine aa ?_ ?_
 refine bf ?_
 refine aa (sv br) ?_
 exact Ab
 exact Ab
 refine aa ?_ ?_
 refine Ag ?_
 refine aa ag ?_
 refine aa (sv br) ?_
 exact Ab
 refine aa ?_ ?_
 refine Ag ?_
 refine aa ag ?_
 refine aa ?_ ?_
 refine Ag ?_
 refine aa (sv br) ?_
 refine aa (sv iu) ?_
 exact Ab
 exact Ab
 exact Ab
 refine ae ?_ ?_
 refine Av (i := 5) ?_ ?_ ?_ ?_
 exact Co.nd
 rfl
 exact Or.inl Bj
 refine Bf (sv Bj) ?_
 refine bf ?_
 refine aa ?_ ?_
 refine Ag ?_
 refine aa ag ?_
 refine aa ?_ ?_
 refine Ag ?_
 refine aa (sv br) ?_
 exact Ab
 refine aa (sv br) ?_
 exact Ab
 refine aa ?_ ?_
 refine Ag ?_
 refine aa ag ?_
 refine aa ?_ ?_
 refine Ag ?_
 refine aa (sv ft) ?_
 exact Ab
 exact Ab
 exact Ab
 refine ae ?_ ?_
 refine Av (i := 5) ?_ ?_ ?_ ?_
 exact Co.nd
 rfl
 exact Or.inl Bj
 refine Bf (sv Bj) ?_
 refine bf ?_
 refine aa ?_ ?_
 refine Ag ?_
 refine aa ag ?_
 refine aa ag ?_
 refine aa (sv br) ?_
 exact Ab
 refine aa ?_ ?_
 refine Ag ?_
 refine aa ag ?_
 refine aa ag ?_
 refine aa ?_ ?_
 refine Ag ?_
 refine aa (sv br) ?_
 refine aa (sv br) ?_
 exact Ab
 exact Ab
 exact Ab
 refine ae ?_ ?_
 refine Av (i := 5) ?_ ?_ ?_ ?_
 exact Co.nd
 rfl
 exact Or.inl Bj
 refine Bf (sv Bj) ?_
 refine bf ?_
 refine aa ?_ ?_
 refine Ag ?_
 refine aa ag ?_
 refine aa ag ?_
 refine aa ?_ ?_
 refine Ag ?_
 refine aa (sv iu) ?_
 exact Ab
 exact Ab
 refine aa ?_ ?_
 refine Ag ?_
 refine aa ag ?_
 refine aa ag ?_
 refine aa ?_ ?_
 refine Ag ?_
 refine aa (sv br) ?_
 exact Ab
 exact Ab
 refine aa ?_ ?_
 refine Ag ?_
 refine aa ag ?_
 exact aa ag Ab
 exact Ab
 refine ae ?_ ?_
 refine Av (i := 5) ?_ ?_ ?_ ?_
 exact Co.nd
 rfl
 exact Or.inl Bj
 refine Bf (sv Bj) ?_
 refine bf ?_
 refine aa ?_ ?_
 refine Ag ?_
 refine aa ag ?_
 refine aa ag ?_
 refine aa ?_ ?_
 refine Ag ?_
 refine aa (sv iu) ?_
 refine aa (sv br) ?_
 exact Ab
 exact Ab
 refine aa ?_ ?_
 refine Ag ?_
 refine aa ag ?_
 refine aa ag ?_
 refine aa ?_ ?_
 refine Ag ?_
 refine aa (sv br) ?_
 exact Ab
 exact Ab
 exact Ab
 refine ae ?_ ?_
 refine Av (i := 5) ?_ ?_ ?_ ?_
 exact Co.nd
 rfl
 exact Or.inl Bj
 refine Bf (sv Bj) ?_
 refine bf ?_
 refine aa ?_ ?_
 refine Ag ?_
 refine aa ag ?_
 refine aa ag ?_
 refine aa ?_ ?_
 refine Ag ?_
 refine aa (sv br) ?_
 exact Ab
 exact Ab
 refine aa ?_ ?_
 refine Ag ?_
 refine aa ag ?_
 refine aa ag ?_
 refine aa ?_ ?_
 exact Ag Ab
 exact Ab
 refine aa ?_ ?_
 refine Ag ?_
 refine aa ag ?_
 refine aa fh ?_
 refine aa ?_ ?_
 refine Ag ?_
 refine aa (sv br) ?_
 exact Ab
 exact Ab
 exact Ab
 refine ae ?_ ?_
 refine Av (i := 5) ?_ ?_ ?_ ?_
 exact Co.nd
 rfl
 exact Or.inl Bj
 refine Bf (sv Bj) ?_
 refine bf ?_
 refine aa ?_ ?_
 refine Ag ?_
 refine aa ag ?_
 refine aa (sv br) ?_
 refine aa (sv br) ?_
 exact Ab
 refine aa ?_ ?_
 refine Ag ?_
 refine aa ag ?_
 refine aa (sv ft) ?_
 refine aa (sv iu) ?_
 exact Ab
 refine aa ?_ ?_
 refine Ag ?_
 refine aa ag ?_
 refine aa (sv ft) ?_
 exact Ab
 exact Ab
 refine ae ?_ ?_
 refine Av (i := 5) ?_ ?_ ?_ ?_
 exact Co.nd
 rfl
 exact Or.inl Bj
 refine Bf (sv Bj) ?_
 refine bf ?_
 refine aa ?_ ?_
 refine Ag ?_
 refine aa ag ?_
 refine aa (sv ft) ?_
 refine aa (sv br) ?_
 refine aa (sv br) ?_
 exact Ab
 refine aa ?_ ?_
 refine Ag ?_
 refine aa ag ?_
 refine aa ag ?_
 refine aa (sv br) ?_
 exact Ab
 exact Ab
 refine ae ?_ ?_
 refine Av (i := 5) ?_ ?_ ?_ ?_
 exact Co.nd
 rfl
 exact Or.inl Bj
 refine Bf (sv Bj) ?_
 refine bf ?_
 refine aa ?_ ?_
 refine Ag ?_
 refine aa ag ?_
 refine aa (sv ft) ?_
 refine aa (sv br) ?_
 exact Ab
 refine aa ?_ ?_
 refine Ag ?_
 refine aa ag ?_
 refine aa (sv ft) ?_
 refine aa (sv iu) ?_
 refine aa (sv br) ?_
 exact Ab
 refine aa ?_ ?_
 refine Ag ?_
 refine aa ag ?_
 refine aa (sv br) ?_
 refine aa (sv br) ?_
 refine aa (sv br) ?_
 exact Ab
 exact Ab
 refine ae ?_ ?_
 refine Av (i := 5) ?_ ?_ ?_ ?_
 exact Co.nd
 rfl
 exact Or.inl Bj
 refine Bf (sv Bj) ?_
 refine bf ?_
 refine aa ?_ ?_
 refine Ag ?_
 refine aa ag ?_
 refine aa (sv ft) ?_
 refine aa (sv br) ?_
 refine aa (sv ft) ?_
 exact Ab
 refine aa ?_ ?_
 refine bf ?_
 refine aa ag ?_
 refine aa ?_ ?_
 refine Ag ?_
 refine aa Ae ?_
 exact aa Ae Ab
 exact Ab
 exact Ab
 refine ae ?_ ?_
 refine Ao ?_
 refine Bm ?_ ?_ ?_ ?_ ?_ ?_
 rfl
 rfl
 exact hu
 refine Bf (sv Bj) ?_
 refine bf ?_
 refine aa ?_ ?_
 refine Ag ?_
 refine aa ag ?_
 refine aa ag ?_
 refine aa ?_ ?_
 refine bf ?_
 refine aa (sv sx) ?_
 exact Ab
 exact Ab
 refine aa ?_ ?_
 refine Ag ?_
 refine aa ag ?_
 refine aa ?_ ?_
 refine Ag ?_
 refine aa Dg ?_
 exact aa Ae Ab
 exact Ab
 refine aa ?_ ?_
 refine Ag ?_
 refine aa fh ?_
 exact aa ag Ab
 refine aa ?_ ?_
 refine Ag ?_
 refine aa ?_ ?_
 refine Ag ?_
 refine aa ag ?_
 exact aa ag Ab
 exact Ab
 exact Ab
 refine Bh (sv aed) ?_
 exact Ae
 intro _ _; rfl
 exact ah
theorem aft : Fk Pr w K mg base fd cls FF (n + 1) 44 ["_law_wrong_here", "_law_num_here", "_law_array_here", "_law_cell"] 4 := by
 refine bc (m := 2 * n + 1) (body' := Kq) T.f_44 aee rfl fun cdv A outer s H E hrm => ?_
 have hr := hrm.mono (show 2 * n ≤ 2 * n + 1 by omega)
 have hu := hr.units
 subst hw
 refine ae ?_ ?_
 refine ay ?_ ?_ ?_
 refine Cq ?_ ?_ ?_ ?_
 rfl
 exact hu
 refine Bh (sv Iu) ?_
 exact Ae
 exact Ae
 refine ae ?_ ?_
 refine Ao ?_
 refine Ag ?_
 refine aa ag ?_
 refine aa ?_ ?_
 refine Ag ?_
 refine aa Ae ?_
 exact aa Ae Ab
 refine aa (sv Hj) ?_
 exact Ab
 exact ah
 exact ah
 refine ae ?_ ?_
 refine ay ?_ ?_ ?_
 refine Cq ?_ ?_ ?_ ?_
 rfl
 exact hu
 refine Bh (sv Iu) ?_
 exact Ae
 exact Ae
 refine ae ?_ ?_
 refine Ao ?_
 refine Ag ?_
 refine aa ag ?_
 refine aa ?_ ?_
 refine Ag ?_
 refine aa (sv Lb) ?_
 refine aa (sv Hj) ?_
 exact Ab
 exact Ab
 exact ah
 exact ah
 refine ae ?_ ?_
 refine ay ?_ ?_ ?_
 refine Cq ?_ ?_ ?_ ?_
 rfl
 exact hu
 refine Bh (sv Iu) ?_
 exact Ae
 exact Ae
 refine ae ?_ ?_
 refine Ao ?_
 refine Ag ?_
 refine aa ag ?_
 refine aa ag ?_
 refine aa ?_ ?_
 refine Ag ?_
 refine aa (sv Hj) ?_
 exact Ab
 exact Ab
 exact ah
 exact ah
 refine ae ?_ ?_
 refine ay ?_ ?_ ?_
 refine Cq ?_ ?_ ?_ ?_
 rfl
 exact hu
 refine Bh (sv Iu) ?_
 exact Ae
 exact Ae
 refine ae ?_ ?_
 refine Ao ?_
 refine Ag ?_
 refine aa ag ?_
 refine aa (sv Nj) ?_
 refine aa (sv Hj) ?_
 exact Ab
 exact ah
 exact ah
 refine ae ?_ ?_
 refine ay ?_ ?_ ?_
 refine Cq ?_ ?_ ?_ ?_
 rfl
 exact hu
 refine Bh (sv Iu) ?_
 exact Ae
 exact Ae
 refine ae ?_ ?_
 refine Ao ?_
 refine Ag ?_
 refine aa ag ?_
 refine aa (sv Nj) ?_
 refine aa (sv Hj) ?_
 refine aa (sv Lb) ?_
 exact Ab
 exact ah
 exact ah
 refine ae ?_ ?_
 refine ay ?_ ?_ ?_
 refine Cq ?_ ?_ ?_ ?_
 rfl
 exact hu
 refine Bh (sv Iu) ?_
 exact Ae
 exact Ae
 refine ae ?_ ?_
 refine Ao ?_
 refine Ag ?_
 refine aa ag ?_
 refine aa ?_ ?_
 refine Ag ?_
 refine aa ag ?_
 refine aa (sv Nj) ?_
 refine aa (sv Lb) ?_
 refine aa (sv Hj) ?_
 exact Ab
 refine aa (sv Lb) ?_
 exact Ab
 exact ah
 exact ah
 refine ae ?_ ?_
 exact Ao (sv Hj)
 exact ah
theorem afu : Fk Pr w K mg base fd cls FF (n + 1) 45 ["_law_word", "_law_inner", "_law_many"] 3 := by
 refine bc (m := 2 * n + 1) (body' := kr) T.f_45 Iv rfl fun cdv A outer s H E hrm => ?_
 have hr := hrm.mono (show 2 * n ≤ 2 * n + 1 by omega)
 have hu := hr.units
 subst hw
 refine ae ?_ ?_
 refine Ke (is := [3]) ?_ ?_ ?_ T.z_range ?_ ?_ ?_
 exact PassesOwn.leaving
 rfl
 rfl
 exact sv aef
 refine Cr Iv.nd ?_ ?_
 rfl
 exact Or.inl aeg
 refine ae ?_ ?_
 refine ay ?_ ?_ ?_
 refine Cq ?_ ?_ ?_ ?_
 rfl
 exact hu
 exact sv nk
 exact Ae
 refine ae ?_ ?_
 refine Av (i := 1) ?_ ?_ ?_ ?_
 exact Iv.nd
 rfl
 exact Or.inl Ft
 refine Ag ?_
 refine aa ag ?_
 refine aa ?_ ?_
 refine Ag ?_
 refine aa Ae ?_
 exact aa Ae Ab
 refine aa (sv Ft) ?_
 exact Ab
 exact ah
 refine ae ?_ ?_
 refine ay ?_ ?_ ?_
 refine Cq ?_ ?_ ?_ ?_
 rfl
 exact hu
 exact sv nk
 exact Ae
 refine ae ?_ ?_
 refine Av (i := 1) ?_ ?_ ?_ ?_
 exact Iv.nd
 rfl
 exact Or.inl Ft
 refine Ag ?_
 refine aa ag ?_
 refine aa ?_ ?_
 refine Ag ?_
 refine aa ?_ ?_
 refine Ag ?_
 refine aa ag ?_
 refine aa ?_ ?_
 refine Ag ?_
 refine aa Ae ?_
 exact aa Ae Ab
 exact Ab
 refine aa (sv Ft) ?_
 exact Ab
 exact Ab
 exact ah
 refine ae ?_ ?_
 refine ay ?_ ?_ ?_
 refine Cq ?_ ?_ ?_ ?_
 rfl
 exact hu
 exact sv nk
 exact Ae
 refine ae ?_ ?_
 refine Av (i := 1) ?_ ?_ ?_ ?_
 exact Iv.nd
 rfl
 exact Or.inl Ft
 refine Ag ?_
 refine aa ag ?_
 refine aa ag ?_
 refine aa ?_ ?_
 refine Ag ?_
 refine aa (sv Ft) ?_
 exact Ab
 exact Ab
 exact ah
 refine ae ?_ ?_
 refine Av (i := 1) ?_ ?_ ?_ ?_
 exact Iv.nd
 rfl
 exact Or.inl Ft
 refine Ag ?_
 refine aa ag ?_
 refine aa ?_ ?_
 refine Ag ?_
 refine aa ag ?_
 exact aa ag Ab
 refine aa (sv Ft) ?_
 exact Ab
 exact ah
 exact ah
 exact ah
 exact ah
 refine ae ?_ ?_
 exact Ao (sv Ft)
 exact ah
theorem afv : Fk Pr w K mg base fd cls FF (n + 1) 46 ["_law_house_here", "_law_cell"] 2 := by
 refine bc (m := 2 * n + 1) (body' := Kr) T.f_46 Nk rfl fun cdv A outer s H E hrm => ?_
 have hr := hrm.mono (show 2 * n ≤ 2 * n + 1 by omega)
 have hu := hr.units
 subst hw
 refine ae ?_ ?_
 refine Av (i := 2) ?_ ?_ ?_ ?_
 exact Nk.nd
 rfl
 exact Or.inl Lc
 refine Bh (sv Nm) ?_
 exact Ae
 refine ae ?_ ?_
 refine Av (i := 3) ?_ ?_ ?_ ?_
 exact Nk.nd
 rfl
 exact Or.inl Ld
 refine Bm ?_ ?_ ?_ ?_ ?_ ?_
 rfl
 rfl
 exact hu
 refine bf ?_
 refine aa ?_ ?_
 refine Ag ?_
 refine aa ag ?_
 refine aa ?_ ?_
 refine Ag ?_
 refine aa Ae ?_
 exact aa Ae Ab
 exact Ab
 refine aa ?_ ?_
 refine Ag ?_
 refine aa ag ?_
 exact aa ag Ab
 exact Ab
 refine Bh ?_ ?_
 refine Cj (sv Nm) ?_
 exact Ae
 exact Ae
 intro _ _; rfl
 refine ae ?_ ?_
 refine ay ?_ ?_ ?_
 refine ej ?_ ?_ ?_ ?_
 rfl
 exact hu
 refine Am ih.i_5 hr (by rfl) T.m_5 T.f_5.kp T.b_5 .nil Aj Ak (Ai rfl) ?_
 refine aa (sv Nl) ?_
 refine aa ?_ ?_
 refine Am ih.i_45 hr (by rfl) T.m_45 T.f_45.kp T.b_45 .nil Aj Ak (Ai rfl) ?_
 refine aa (sv Lc) ?_
 refine aa (sv Ld) ?_
 exact aa Ae Ab
 exact Ab
 exact ag
 refine ae ?_ ?_
 exact Ao Dg
 exact ah
 exact ah
 refine ae ?_ ?_
 refine ay ?_ ?_ ?_
 refine Bq ?_
 refine Bp ?_ ?_ ?_ ?_
 rfl
 refine Am ih.i_42 hr (by rfl) T.m_42 T.f_42.kp T.b_42 .nil Aj Ak (Ai rfl) ?_
 refine aa (sv Nl) ?_
 refine aa ?_ ?_
 refine Am ih.i_45 hr (by rfl) T.m_45 T.f_45.kp T.b_45 .nil Aj Ak (Ai rfl) ?_
 refine aa (sv Lc) ?_
 refine aa (sv Ld) ?_
 exact aa Ae Ab
 exact Ab
 exact Dj
 intro _; rfl
 refine ae ?_ ?_
 exact Ao Dg
 exact ah
 exact ah
 refine ae ?_ ?_
 refine Ao ?_
 refine Am ih.i_42 hr (by rfl) T.m_42 T.f_42.kp T.b_42 .nil Aj Ak (Ai rfl) ?_
 refine aa (sv Nl) ?_
 refine aa ?_ ?_
 refine Am ih.i_45 hr (by rfl) T.m_45 T.f_45.kp T.b_45 .nil Aj Ak (Ai rfl) ?_
 refine aa (sv Lc) ?_
 refine aa (sv Ld) ?_
 refine aa ?_ ?_
 refine Bf Ae ?_
 refine Bh ?_ ?_
 refine Cj (sv Nm) ?_
 exact Ae
 exact Ae
 exact Ab
 exact Ab
 exact ah
theorem afw : Fk Pr w K mg base fd cls FF (n + 1) 47 ["_law_script"] 1 := by
 refine bc (m := 2 * n + 1) (body' := ip) T.f_47 dm rfl fun cdv A outer s H E hrm => ?_
 have hr := hrm.mono (show 2 * n ≤ 2 * n + 1 by omega)
 have hu := hr.units
 subst hw
 refine ae ?_ ?_
 refine Av (i := 1) ?_ ?_ ?_ ?_
 exact dm.nd
 rfl
 exact Or.inl Gi
 exact aaq ih.i_37 hr (by rfl) T.m_37 T.f_37.kp T.b_37 .nil Aj Ak (Ai rfl)
 refine ae ?_ ?_
 refine Av (i := 2) ?_ ?_ ?_ ?_
 exact dm.nd
 rfl
 exact Or.inl Hl
 refine Am ih.i_36 hr (by rfl) T.m_36 T.f_36.kp T.b_36 .nil Aj Ak (Ai rfl) ?_
 refine aa ?_ ?_
 refine Am ih.i_35 hr (by rfl) T.m_35 T.f_35.kp T.b_35 .nil Aj Ak (Ai rfl) ?_
 refine aa (sv Hk) ?_
 exact aa Ae Ab
 exact Ab
 refine ae ?_ ?_
 refine Ck (is := [3, 2]) ?_ ?_
 refine Am ih.i_41 hr (by rfl) T.m_41 T.f_41.kp T.b_41 .nil Aj Ak (Ai rfl) ?_
 refine aa (sv Hl) ?_
 refine aa ?_ ?_
 refine Bf Ae ?_
 refine Bh ?_ ?_
 refine Am ih.i_35 hr (by rfl) T.m_35 T.f_35.kp T.b_35 .nil Aj Ak (Ai rfl) ?_
 refine aa (sv Hk) ?_
 exact aa Ae Ab
 exact Ae
 exact Ab
 refine Bv ?_ ?_
 rfl
 refine Aw ?_ ?_
 refine Ax (i := 3) ?_ ?_ ?_
 exact dm.nd
 rfl
 exact Or.inl iw
 refine Aw ?_ ?_
 refine Ax (i := 2) ?_ ?_ ?_
 exact dm.nd
 rfl
 exact Or.inl Hl
 exact Bu
 refine ae ?_ ?_
 refine Ck (is := [4, 2]) ?_ ?_
 refine Am ih.i_38 hr (by rfl) T.m_38 T.f_38.kp T.b_38 .nil Aj Ak (Ai rfl) ?_
 refine aa (sv Hl) ?_
 refine aa ?_ ?_
 refine Bf Ae ?_
 refine Bh ?_ ?_
 refine Cj ?_ ?_
 refine Am ih.i_35 hr (by rfl) T.m_35 T.f_35.kp T.b_35 .nil Aj Ak (Ai rfl) ?_
 refine aa (sv Hk) ?_
 exact aa Ae Ab
 exact Ae
 exact Ae
 exact Ab
 refine Bv ?_ ?_
 rfl
 refine Aw ?_ ?_
 refine Ax (i := 4) ?_ ?_ ?_
 exact dm.nd
 rfl
 exact Or.inl Nn
 refine Aw ?_ ?_
 refine Ax (i := 2) ?_ ?_ ?_
 exact dm.nd
 rfl
 exact Or.inl Hl
 exact Bu
 refine ae ?_ ?_
 refine Ck (is := [5, 2]) ?_ ?_
 refine Am ih.i_39 hr (by rfl) T.m_39 T.f_39.kp T.b_39 .nil Aj Ak (Ai rfl) ?_
 refine aa (sv Hl) ?_
 refine aa ?_ ?_
 refine Bf Ae ?_
 refine Bh ?_ ?_
 refine Cj ?_ ?_
 refine Am ih.i_35 hr (by rfl) T.m_35 T.f_35.kp T.b_35 .nil Aj Ak (Ai rfl) ?_
 refine aa (sv Hk) ?_
 exact aa Ae Ab
 exact Ae
 exact Ae
 exact Ab
 refine Bv ?_ ?_
 rfl
 refine Aw ?_ ?_
 refine Ax (i := 5) ?_ ?_ ?_
 exact dm.nd
 rfl
 exact Or.inl jl
 refine Aw ?_ ?_
 refine Ax (i := 2) ?_ ?_ ?_
 exact dm.nd
 rfl
 exact Or.inl Hl
 exact Bu
 refine ae ?_ ?_
 refine Ke (is := [6]) ?_ ?_ ?_ T.z_range ?_ ?_ ?_
 exact PassesOwn.leaving
 rfl
 rfl
 exact Ae
 refine Cr dm.nd ?_ ?_
 rfl
 exact Or.inl aeh
 refine ae ?_ ?_
 refine ay ?_ ?_ ?_
 refine PW.pt ?_
 refine ck ?_ ?_
 refine ej ?_ ?_ ?_ ?_
 rfl
 exact hu
 refine Am ih.i_5 hr (by rfl) T.m_5 T.f_5.kp T.b_5 .nil Aj Ak (Ai rfl) ?_
 refine aa (sv Gi) ?_
 refine aa (sv iw) ?_
 exact Ab
 exact ag
 refine ck ?_ ?_
 refine ej ?_ ?_ ?_ ?_
 rfl
 exact hu
 refine Am ih.i_5 hr (by rfl) T.m_5 T.f_5.kp T.b_5 .nil Aj Ak (Ai rfl) ?_
 refine aa (sv Gi) ?_
 refine aa (sv Nn) ?_
 exact Ab
 exact ag
 refine di ?_
 refine ej ?_ ?_ ?_ ?_
 rfl
 exact hu
 refine Am ih.i_5 hr (by rfl) T.m_5 T.f_5.kp T.b_5 .nil Aj Ak (Ai rfl) ?_
 refine aa (sv Gi) ?_
 refine aa (sv jl) ?_
 exact Ab
 exact ag
 refine ae ?_ ?_
 exact Ao Dg
 exact ah
 exact ah
 exact ah
 refine ae ?_ ?_
 refine Qb (is := [7]) ?_ ?_ ?_ ?_ ?_ ?_
 rfl
 exact PassesOwn.leaving
 rfl
 refine Bf ?_ ?_
 refine yq ?_ ?_ ?_ ?_
 rfl
 exact sv Hk
 exact Ae
 exact Ae
 refine bf ?_
 refine aa ?_ ?_
 refine Am ih.i_35 hr (by rfl) T.m_35 T.f_35.kp T.b_35 .nil Aj Ak (Ai rfl) ?_
 refine aa (sv Hk) ?_
 exact aa Ae Ab
 exact Ab
 refine Cr dm.nd ?_ ?_
 rfl
 exact Or.inl Le
 refine ae ?_ ?_
 refine Av (i := 8) ?_ ?_ ?_ ?_
 exact dm.nd
 rfl
 exact Or.inl Jl
 refine Am ih.i_43 hr (by rfl) T.m_43 T.f_43.kp T.b_43 .nil Aj Ak (Ai rfl) ?_
 refine aa (sv iw) ?_
 refine aa (sv Nn) ?_
 refine aa (sv jl) ?_
 refine aa (sv Le) ?_
 exact Ab
 refine ae ?_ ?_
 refine ay ?_ ?_ ?_
 refine Bq ?_
 refine Bp ?_ ?_ ?_ ?_
 rfl
 refine Am ih.i_42 hr (by rfl) T.m_42 T.f_42.kp T.b_42 .nil Aj Ak (Ai rfl) ?_
 refine aa (sv Gi) ?_
 refine aa (sv Jl) ?_
 exact Ab
 exact Dj
 intro _; rfl
 refine ae ?_ ?_
 exact Ao Dg
 exact ah
 exact ah
 refine ae ?_ ?_
 refine Av (i := 8) ?_ ?_ ?_ ?_
 exact dm.nd
 rfl
 exact Or.inl Jl
 refine Am ih.i_44 hr (by rfl) T.m_44 T.f_44.kp T.b_44 .nil Aj Ak (Ai rfl) ?_
 refine aa (sv Jl) ?_
 refine aa (sv iw) ?_
 refine aa (sv jl) ?_
 refine aa ?_ ?_
 refine Cj (sv Le) ?_
 exact Ae
 exact Ab
 refine ae ?_ ?_
 refine ay ?_ ?_ ?_
 refine Bq ?_
 refine Bp ?_ ?_ ?_ ?_
 rfl
 refine Am ih.i_42 hr (by rfl) T.m_42 T.f_42.kp T.b_42 .nil Aj Ak (Ai rfl) ?_
 refine aa (sv Gi) ?_
 refine aa ?_ ?_
 refine Am ih.i_44 hr (by rfl) T.m_44 T.f_44.kp T.b_44 .nil Aj Ak (Ai rfl) ?_
 refine aa (sv Jl) ?_
 refine aa (sv iw) ?_
 refine aa (sv jl) ?_
 refine aa ?_ ?_
 refine Cj (sv Le) ?_
 exact Ae
 exact Ab
 exact Ab
 exact Dj
 intro _; rfl
 refine ae ?_ ?_
 exact Ao Dg
 exact ah
 exact ah
 exact ah
 refine ae ?_ ?_
 refine Ao ?_
 refine Ej ?_ ?_
 refine Lz ?_ ?_ ?_ ?_
 rfl
 exact hu
 refine Am ih.i_5 hr (by rfl) T.m_5 T.f_5.kp T.b_5 .nil Aj Ak (Ai rfl) ?_
 refine aa (sv Gi) ?_
 refine aa (sv iw) ?_
 exact Ab
 exact ag
 refine fx ?_
 refine Am ih.i_46 hr (by rfl) T.m_46 T.f_46.kp T.b_46 .nil Aj Ak (Ai rfl) ?_
 refine aa (sv Gi) ?_
 refine aa ?_ ?_
 refine Am ih.i_35 hr (by rfl) T.m_35 T.f_35.kp T.b_35 .nil Aj Ak (Ai rfl) ?_
 refine aa (sv Hk) ?_
 exact aa Ae Ab
 exact Ab
 exact ah
end
theorem Sx (hw : cls.w = w) (T : Txt K mg fd cls) : ∀ n, IH (Fk Pr w K mg base fd cls FF n)
 | 0 => ⟨Bc, Bc, Bc, Bc, Bc, Bc, Bc, Bc, Bc, Bc, Bc, Bc, Bc, Bc, Bc, Bc, Bc, Bc, Bc, Bc, Bc, Bc, Bc, Bc, Bc, Bc, Bc, Bc, Bc, Bc, Bc, Bc, Bc, Bc, Bc, Bc, Bc, Bc, Bc, Bc, Bc⟩
 | n + 1 => by
  have ih := Sx hw T n
  exact ⟨aei hw T ih, aej hw T ih, aek hw T ih, ael hw T ih, aem hw T ih, aen hw T ih, aeo hw T ih, aep hw T ih, aeq hw T ih, aer hw T ih, aes hw T ih, aet hw T ih, aeu hw T ih, aev hw T ih, aew hw T ih, aex hw T ih, aey hw T ih, aez hw T ih, afa hw T ih, afb hw T ih, afc hw T ih, afd hw T ih, afe hw T ih, aff hw T ih, afg hw T ih, afh hw T ih, afi hw T ih, afj hw T ih, afk hw T ih, afl hw T ih, afm hw T ih, afn hw T ih, afo hw T ih, afp hw T ih, afq hw T ih, afr hw T ih, afs hw T ih, aft hw T ih, afu hw T ih, afv hw T ih, afw hw T ih⟩
end
abbrev sy (l : List Addr) : Nat → Addr := fun i => l.getD i 0
instance : Inhabited FuncData := ⟨PySem.W.fnOf "" "" (Ia (.Pass ⟨0, 0, 0, 0⟩)) (Fv (.Pass ⟨0, 0, 0, 0⟩)) (au (.Pass ⟨0, 0, 0, 0⟩)) .none .none .none .none none .none .none⟩
theorem afx (kV doc pm : Value) (an : Option Addr) (cdv ct : Value) (us : List Value) (hl : us.length = 1) : bindArgs (fO "law" "law" Cw .none kV doc pm an cdv ct) ⟨us, []⟩ = pure ((["_law_script"] : List Str).zip us) := match us, hl with | [_], _ => rfl
theorem afy {K : PySem.W.Frag} {kv1 dc1 pm1 cd1 ct1 : Value} {an1 : Option Addr} : Binds K (fO "is_whole" "is_whole" Gw .none kv1 dc1 pm1 an1 cd1 ct1) ["thing"] [] := Binds.all fun us hl => match us, hl with | [_], _ => rfl
theorem afz {K : PySem.W.Frag} {kv2 dc2 pm2 cd2 ct2 : Value} {an2 : Option Addr} : Binds K (fO "is_fraction" "is_fraction" Fj .none kv2 dc2 pm2 an2 cd2 ct2) ["thing"] [] := Binds.all fun us hl => match us, hl with | [_], _ => rfl
theorem aga {K : PySem.W.Frag} {kv3 dc3 pm3 cd3 ct3 : Value} {an3 : Option Addr} : Binds K (fO "common_divisor" "common_divisor" gd .none kv3 dc3 pm3 an3 cd3 ct3) ["one", "other"] [] := Binds.all fun us hl => match us, hl with | [_, _], _ => rfl
theorem agb {K : PySem.W.Frag} {kv4 dc4 pm4 cd4 ct4 : Value} {an4 : Option Addr} : Binds K (fO "word_of" "word_of" gx .none kv4 dc4 pm4 an4 cd4 ct4) ["thing"] [] := Binds.all fun us hl => match us, hl with | [_], _ => rfl
theorem agc {K : PySem.W.Frag} {kv5 dc5 pm5 cd5 ct5 : Value} {an5 : Option Addr} : Binds K (fO "kind_of" "kind_of" Gd .none kv5 dc5 pm5 an5 cd5 ct5) ["names", "term"] [] := Binds.all fun us hl => match us, hl with | [_, _], _ => rfl
theorem agd {K : PySem.W.Frag} {kv6 dc6 pm6 cd6 ct6 : Value} {an6 : Option Addr} : Binds K (fO "kind_within" "kind_within" Dz .none kv6 dc6 pm6 an6 cd6 ct6) ["names", "term", "room"] [] := Binds.all fun us hl => match us, hl with | [_, _, _], _ => rfl
theorem age {K : PySem.W.Frag} {kv7 dc7 pm7 cd7 ct7 : Value} {an7 : Option Addr} : Binds K (fO "check_kinds" "check_kinds" dt .none kv7 dc7 pm7 an7 cd7 ct7) ["names", "terms", "kinds", "room"] [] := Binds.all fun us hl => match us, hl with | [_, _, _, _], _ => rfl
theorem agf {K : PySem.W.Frag} {kv8 dc8 pm8 cd8 ct8 : Value} {an8 : Option Addr} : Binds K (fO "kind_of_number" "kind_of_number" Gx .none kv8 dc8 pm8 an8 cd8 ct8) ["names", "term", "room"] [] := Binds.all fun us hl => match us, hl with | [_, _, _], _ => rfl
theorem agg {K : PySem.W.Frag} {kv9 dc9 pm9 cd9 ct9 : Value} {an9 : Option Addr} : Binds K (fO "kind_of_unknown" "kind_of_unknown" fk .none kv9 dc9 pm9 an9 cd9 ct9) ["names", "term", "room"] [] := Binds.all fun us hl => match us, hl with | [_, _, _], _ => rfl
theorem agh {K : PySem.W.Frag} {kv10 dc10 pm10 cd10 ct10 : Value} {an10 : Option Addr} : Binds K (fO "kind_of_weigh" "kind_of_weigh" fm .none kv10 dc10 pm10 an10 cd10 ct10) ["names", "term", "room"] [] := Binds.all fun us hl => match us, hl with | [_, _, _], _ => rfl
theorem agi {K : PySem.W.Frag} {kv11 dc11 pm11 cd11 ct11 : Value} {an11 : Option Addr} : Binds K (fO "kind_of_plus" "kind_of_plus" Fm .none kv11 dc11 pm11 an11 cd11 ct11) ["names", "term", "room"] [] := Binds.all fun us hl => match us, hl with | [_, _, _], _ => rfl
theorem agj {K : PySem.W.Frag} {kv12 dc12 pm12 cd12 ct12 : Value} {an12 : Option Addr} : Binds K (fO "kind_of_call" "kind_of_call" Dt .none kv12 dc12 pm12 an12 cd12 ct12) ["names", "term", "room"] [] := Binds.all fun us hl => match us, hl with | [_, _, _], _ => rfl
theorem agk {K : PySem.W.Frag} {kv13 dc13 pm13 cd13 ct13 : Value} {an13 : Option Addr} : Binds K (fO "kind_of_read" "kind_of_read" fo .none kv13 dc13 pm13 an13 cd13 ct13) ["names", "term", "room"] [] := Binds.all fun us hl => match us, hl with | [_, _, _], _ => rfl
theorem agl {K : PySem.W.Frag} {kv14 dc14 pm14 cd14 ct14 : Value} {an14 : Option Addr} : Binds K (fO "kind_of_put" "kind_of_put" Fo .none kv14 dc14 pm14 an14 cd14 ct14) ["names", "term", "room"] [] := Binds.all fun us hl => match us, hl with | [_, _, _], _ => rfl
theorem agm {K : PySem.W.Frag} {kv15 dc15 pm15 cd15 ct15 : Value} {an15 : Option Addr} : Binds K (fO "is_name" "is_name" gy .none kv15 dc15 pm15 an15 cd15 ct15) ["thing"] [] := Binds.all fun us hl => match us, hl with | [_], _ => rfl
theorem agn {K : PySem.W.Frag} {kv16 dc16 pm16 cd16 ct16 : Value} {an16 : Option Addr} : Binds K (fO "is_row" "is_row" Gy .none kv16 dc16 pm16 an16 cd16 ct16) ["thing"] [] := Binds.all fun us hl => match us, hl with | [_], _ => rfl
theorem ago {K : PySem.W.Frag} {kv17 dc17 pm17 cd17 ct17 : Value} {an17 : Option Addr} : Binds K (fO "is_kind" "is_kind" gz .none kv17 dc17 pm17 an17 cd17 ct17) ["thing"] [] := Binds.all fun us hl => match us, hl with | [_], _ => rfl
theorem agp {K : PySem.W.Frag} {kv18 dc18 pm18 cd18 ct18 : Value} {an18 : Option Addr} : Binds K (fO "is_list_of_names" "is_list_of_names" Gz .none kv18 dc18 pm18 an18 cd18 ct18) ["thing"] [] := Binds.all fun us hl => match us, hl with | [_], _ => rfl
theorem agq {K : PySem.W.Frag} {kv19 dc19 pm19 cd19 ct19 : Value} {an19 : Option Addr} : Binds K (fO "is_bounded" "is_bounded" Ha .none kv19 dc19 pm19 an19 cd19 ct19) ["thing"] [] := Binds.all fun us hl => match us, hl with | [_], _ => rfl
theorem agr {K : PySem.W.Frag} {kv20 dc20 pm20 cd20 ct20 : Value} {an20 : Option Addr} : Binds K (fO "is_function" "is_function" Hb .none kv20 dc20 pm20 an20 cd20 ct20) ["thing"] [] := Binds.all fun us hl => match us, hl with | [_], _ => rfl
theorem ags {K : PySem.W.Frag} {kv21 dc21 pm21 cd21 ct21 : Value} {an21 : Option Addr} : Binds K (fO "check_wholes" "check_wholes" Ea .none kv21 dc21 pm21 an21 cd21 ct21) ["wholes"] [] := Binds.all fun us hl => match us, hl with | [_], _ => rfl
theorem agt {K : PySem.W.Frag} {kv22 dc22 pm22 cd22 ct22 : Value} {an22 : Option Addr} : Binds K (fO "check_functions" "check_functions" Hc .none kv22 dc22 pm22 an22 cd22 ct22) ["functions"] [] := Binds.all fun us hl => match us, hl with | [_], _ => rfl
theorem agu {K : PySem.W.Frag} {kv23 dc23 pm23 cd23 ct23 : Value} {an23 : Option Addr} : Binds K (fO "check_names" "check_names" Hd .none kv23 dc23 pm23 an23 cd23 ct23) ["names"] [] := Binds.all fun us hl => match us, hl with | [_], _ => rfl
theorem agv {K : PySem.W.Frag} {kv24 dc24 pm24 cd24 ct24 : Value} {an24 : Option Addr} : Binds K (fO "first_parts" "first_parts" He .none kv24 dc24 pm24 an24 cd24 ct24) ["rows"] [] := Binds.all fun us hl => match us, hl with | [_], _ => rfl
theorem agw {K : PySem.W.Frag} {kv25 dc25 pm25 cd25 ct25 : Value} {an25 : Option Addr} : Binds K (fO "check_unlike" "check_unlike" Hf .none kv25 dc25 pm25 an25 cd25 ct25) ["names"] [] := Binds.all fun us hl => match us, hl with | [_], _ => rfl
theorem agx {K : PySem.W.Frag} {kv26 dc26 pm26 cd26 ct26 : Value} {an26 : Option Addr} : Binds K (fO "__init__" "Names.__init__" Dk .none kv26 dc26 pm26 an26 cd26 ct26) ["self", "numbers", "wholes", "things", "functions", "arrays"] [] := Binds.all fun us hl => match us, hl with | [_, _, _, _, _, _], _ => rfl
theorem agy {K : PySem.W.Frag} {kv32 dc32 pm32 cd32 ct32 : Value} {an32 : Option Addr} : Binds K (fO "kind" "Names.kind" Ge .none kv32 dc32 pm32 an32 cd32 ct32) ["self", "name"] [] := Binds.all fun us hl => match us, hl with | [_, _], _ => rfl
theorem agz {K : PySem.W.Frag} {kv34 dc34 pm34 cd34 ct34 : Value} {an34 : Option Addr} : Binds K (fO "function" "Names.function" gf .none kv34 dc34 pm34 an34 cd34 ct34) ["self", "name"] [] := Binds.all fun us hl => match us, hl with | [_, _], _ => rfl
theorem aha {K : PySem.W.Frag} {kv35 dc35 pm35 cd35 ct35 : Value} {an35 : Option Addr} : Binds K (fO "_law_cell_at" "_law_cell_at" Gf .none kv35 dc35 pm35 an35 cd35 ct35) ["_law_script", "_law_k"] [] := Binds.all fun us hl => match us, hl with | [_, _], _ => rfl
theorem ahb {K : PySem.W.Frag} {kv36 dc36 pm36 cd36 ct36 : Value} {an36 : Option Addr} : Binds K (fO "_law_digits" "_law_digits" Eo .none kv36 dc36 pm36 an36 cd36 ct36) ["_law_cell"] [] := Binds.all fun us hl => match us, hl with | [_], _ => rfl
theorem ahc {K : PySem.W.Frag} {kv37 dc37 pm37 cd37 ct37 : Value} {an37 : Option Addr} : Binds K (fO "_law_house" "_law_house" Hg .none kv37 dc37 pm37 an37 cd37 ct37) [] [] := Binds.all fun us hl => match us, hl with | [], _ => rfl
theorem ahd {K : PySem.W.Frag} {kv38 dc38 pm38 cd38 ct38 : Value} {an38 : Option Addr} : Binds K (fO "_law_thing" "_law_thing" Dl .none kv38 dc38 pm38 an38 cd38 ct38) ["_law_number", "_law_deep_here"] [] := Binds.all fun us hl => match us, hl with | [_, _], _ => rfl
theorem ahe {K : PySem.W.Frag} {kv39 dc39 pm39 cd39 ct39 : Value} {an39 : Option Addr} : Binds K (fO "_law_array" "_law_array" du .none kv39 dc39 pm39 an39 cd39 ct39) ["_law_number", "_law_deep_here"] [] := Binds.all fun us hl => match us, hl with | [_, _], _ => rfl
theorem ahf {K : PySem.W.Frag} {kv40 dc40 pm40 cd40 ct40 : Value} {an40 : Option Addr} : Binds K (fO "_law_fraction" "_law_fraction" Gg .none kv40 dc40 pm40 an40 cd40 ct40) ["_law_number"] [] := Binds.all fun us hl => match us, hl with | [_], _ => rfl
theorem ahg {K : PySem.W.Frag} {kv41 dc41 pm41 cd41 ct41 : Value} {an41 : Option Addr} : Binds K (fO "_law_num" "_law_num" Cs .none kv41 dc41 pm41 an41 cd41 ct41) ["_law_number", "_law_deep_here"] [] := Binds.all fun us hl => match us, hl with | [_, _], _ => rfl
theorem ahh {K : PySem.W.Frag} {kv42 dc42 pm42 cd42 ct42 : Value} {an42 : Option Addr} : Binds K (fO "_law_refused" "_law_refused" Ep .none kv42 dc42 pm42 an42 cd42 ct42) ["_law_house_here", "_law_term"] [] := Binds.all fun us hl => match us, hl with | [_, _], _ => rfl
theorem ahi {K : PySem.W.Frag} {kv43 dc43 pm43 cd43 ct43 : Value} {an43 : Option Addr} : Binds K (fO "_law_wrong" "_law_wrong" Du .none kv43 dc43 pm43 an43 cd43 ct43) ["_law_num_here", "_law_thing_here", "_law_array_here", "_law_cell"] [] := Binds.all fun us hl => match us, hl with | [_, _, _, _], _ => rfl
theorem ahj {K : PySem.W.Frag} {kv44 dc44 pm44 cd44 ct44 : Value} {an44 : Option Addr} : Binds K (fO "_law_round" "_law_round" er .none kv44 dc44 pm44 an44 cd44 ct44) ["_law_wrong_here", "_law_num_here", "_law_array_here", "_law_cell"] [] := Binds.all fun us hl => match us, hl with | [_, _, _, _], _ => rfl
theorem ahk {K : PySem.W.Frag} {kv45 dc45 pm45 cd45 ct45 : Value} {an45 : Option Addr} : Binds K (fO "_law_deep" "_law_deep" Et .none kv45 dc45 pm45 an45 cd45 ct45) ["_law_word", "_law_inner", "_law_many"] [] := Binds.all fun us hl => match us, hl with | [_, _, _], _ => rfl
theorem ahl {K : PySem.W.Frag} {kv46 dc46 pm46 cd46 ct46 : Value} {an46 : Option Addr} : Binds K (fO "_law_depth_right" "_law_depth_right" eu .none kv46 dc46 pm46 an46 cd46 ct46) ["_law_house_here", "_law_cell"] [] := Binds.all fun us hl => match us, hl with | [_, _], _ => rfl
theorem ahm {K : PySem.W.Frag} {kv47 dc47 pm47 cd47 ct47 : Value} {an47 : Option Addr} : Binds K (fO "law" "law" Cw .none kv47 dc47 pm47 an47 cd47 ct47) ["_law_script"] [] := Binds.all fun us hl => match us, hl with | [_], _ => rfl
set_option maxHeartbeats 0 in
theorem ahn (w : World) {K : PySem.W.Frag} {mg : Str → Option Value} {h : Heap} (X : K.In h) (G : h.Ns mainGlobals mg)
    {ci1 : _}
    {ci2 : _}
    (ac0 : PySem.W.nsIn K mainGlobals "PartError" = some (some (.ref g0)))
    (ac1 : PySem.W.nsIn K mainGlobals "BadNames" = some (some (.ref g1)))
    (ac2 : PySem.W.nsIn K mainGlobals "BadTerm" = some (some (.ref g2)))
    (ac3 : PySem.W.nsIn K mainGlobals "BadStatement" = some (some (.ref g3)))
    (ac4 : PySem.W.nsIn K mainGlobals "NotTold" = some (some (.ref g4)))
    (ac5 : PySem.W.nsIn K mainGlobals "NoText" = some (some (.ref g5)))
    (ac6 : PySem.W.nsIn K mainGlobals "NoRow" = some (some (.ref g6)))
    (ac7 : PySem.W.nsIn K mainGlobals "NoNumber" = some (some (.ref g7)))
    (ac8 : PySem.W.nsIn K mainGlobals "Names" = some (some (.ref g8)))
    (a1 : PySem.W.nsIn K mainGlobals "is_whole" = some (some (.ref f1)))
    (l1 : K.lookup f1 = some ⟨oc1, od1, .func (fO "is_whole" "is_whole" Gw .none kv1 dc1 pm1 an1 cd1 ct1), sl1⟩)
    (c1 : PySem.W.codeIn K cd1 "is_whole" = true)
    (k1 : PySem.W.keepIn K (.ref f1) = true)
    (a2 : PySem.W.nsIn K mainGlobals "is_fraction" = some (some (.ref f2)))
    (l2 : K.lookup f2 = some ⟨oc2, od2, .func (fO "is_fraction" "is_fraction" Fj .none kv2 dc2 pm2 an2 cd2 ct2), sl2⟩)
    (c2 : PySem.W.codeIn K cd2 "is_fraction" = true)
    (k2 : PySem.W.keepIn K (.ref f2) = true)
    (a3 : PySem.W.nsIn K mainGlobals "common_divisor" = some (some (.ref f3)))
    (l3 : K.lookup f3 = some ⟨oc3, od3, .func (fO "common_divisor" "common_divisor" gd .none kv3 dc3 pm3 an3 cd3 ct3), sl3⟩)
    (c3 : PySem.W.codeIn K cd3 "common_divisor" = true)
    (k3 : PySem.W.keepIn K (.ref f3) = true)
    (a4 : PySem.W.nsIn K mainGlobals "word_of" = some (some (.ref f4)))
    (l4 : K.lookup f4 = some ⟨oc4, od4, .func (fO "word_of" "word_of" gx .none kv4 dc4 pm4 an4 cd4 ct4), sl4⟩)
    (c4 : PySem.W.codeIn K cd4 "word_of" = true)
    (k4 : PySem.W.keepIn K (.ref f4) = true)
    (a5 : PySem.W.nsIn K mainGlobals "kind_of" = some (some (.ref f5)))
    (l5 : K.lookup f5 = some ⟨oc5, od5, .func (fO "kind_of" "kind_of" Gd .none kv5 dc5 pm5 an5 cd5 ct5), sl5⟩)
    (c5 : PySem.W.codeIn K cd5 "kind_of" = true)
    (k5 : PySem.W.keepIn K (.ref f5) = true)
    (a6 : PySem.W.nsIn K mainGlobals "kind_within" = some (some (.ref f6)))
    (l6 : K.lookup f6 = some ⟨oc6, od6, .func (fO "kind_within" "kind_within" Dz .none kv6 dc6 pm6 an6 cd6 ct6), sl6⟩)
    (c6 : PySem.W.codeIn K cd6 "kind_within" = true)
    (k6 : PySem.W.keepIn K (.ref f6) = true)
    (a7 : PySem.W.nsIn K mainGlobals "check_kinds" = some (some (.ref f7)))
    (l7 : K.lookup f7 = some ⟨oc7, od7, .func (fO "check_kinds" "check_kinds" dt .none kv7 dc7 pm7 an7 cd7 ct7), sl7⟩)
    (c7 : PySem.W.codeIn K cd7 "check_kinds" = true)
    (k7 : PySem.W.keepIn K (.ref f7) = true)
    (a8 : PySem.W.nsIn K mainGlobals "kind_of_number" = some (some (.ref f8)))
    (l8 : K.lookup f8 = some ⟨oc8, od8, .func (fO "kind_of_number" "kind_of_number" Gx .none kv8 dc8 pm8 an8 cd8 ct8), sl8⟩)
    (c8 : PySem.W.codeIn K cd8 "kind_of_number" = true)
    (k8 : PySem.W.keepIn K (.ref f8) = true)
    (a9 : PySem.W.nsIn K mainGlobals "kind_of_unknown" = some (some (.ref f9)))
    (l9 : K.lookup f9 = some ⟨oc9, od9, .func (fO "kind_of_unknown" "kind_of_unknown" fk .none kv9 dc9 pm9 an9 cd9 ct9), sl9⟩)
    (c9 : PySem.W.codeIn K cd9 "kind_of_unknown" = true)
    (k9 : PySem.W.keepIn K (.ref f9) = true)
    (a10 : PySem.W.nsIn K mainGlobals "kind_of_weigh" = some (some (.ref f10)))
    (l10 : K.lookup f10 = some ⟨oc10, od10, .func (fO "kind_of_weigh" "kind_of_weigh" fm .none kv10 dc10 pm10 an10 cd10 ct10), sl10⟩)
    (c10 : PySem.W.codeIn K cd10 "kind_of_weigh" = true)
    (k10 : PySem.W.keepIn K (.ref f10) = true)
    (a11 : PySem.W.nsIn K mainGlobals "kind_of_plus" = some (some (.ref f11)))
    (l11 : K.lookup f11 = some ⟨oc11, od11, .func (fO "kind_of_plus" "kind_of_plus" Fm .none kv11 dc11 pm11 an11 cd11 ct11), sl11⟩)
    (c11 : PySem.W.codeIn K cd11 "kind_of_plus" = true)
    (k11 : PySem.W.keepIn K (.ref f11) = true)
    (a12 : PySem.W.nsIn K mainGlobals "kind_of_call" = some (some (.ref f12)))
    (l12 : K.lookup f12 = some ⟨oc12, od12, .func (fO "kind_of_call" "kind_of_call" Dt .none kv12 dc12 pm12 an12 cd12 ct12), sl12⟩)
    (c12 : PySem.W.codeIn K cd12 "kind_of_call" = true)
    (k12 : PySem.W.keepIn K (.ref f12) = true)
    (a13 : PySem.W.nsIn K mainGlobals "kind_of_read" = some (some (.ref f13)))
    (l13 : K.lookup f13 = some ⟨oc13, od13, .func (fO "kind_of_read" "kind_of_read" fo .none kv13 dc13 pm13 an13 cd13 ct13), sl13⟩)
    (c13 : PySem.W.codeIn K cd13 "kind_of_read" = true)
    (k13 : PySem.W.keepIn K (.ref f13) = true)
    (a14 : PySem.W.nsIn K mainGlobals "kind_of_put" = some (some (.ref f14)))
    (l14 : K.lookup f14 = some ⟨oc14, od14, .func (fO "kind_of_put" "kind_of_put" Fo .none kv14 dc14 pm14 an14 cd14 ct14), sl14⟩)
    (c14 : PySem.W.codeIn K cd14 "kind_of_put" = true)
    (k14 : PySem.W.keepIn K (.ref f14) = true)
    (a15 : PySem.W.nsIn K mainGlobals "is_name" = some (some (.ref f15)))
    (l15 : K.lookup f15 = some ⟨oc15, od15, .func (fO "is_name" "is_name" gy .none kv15 dc15 pm15 an15 cd15 ct15), sl15⟩)
    (c15 : PySem.W.codeIn K cd15 "is_name" = true)
    (k15 : PySem.W.keepIn K (.ref f15) = true)
    (a16 : PySem.W.nsIn K mainGlobals "is_row" = some (some (.ref f16)))
    (l16 : K.lookup f16 = some ⟨oc16, od16, .func (fO "is_row" "is_row" Gy .none kv16 dc16 pm16 an16 cd16 ct16), sl16⟩)
    (c16 : PySem.W.codeIn K cd16 "is_row" = true)
    (k16 : PySem.W.keepIn K (.ref f16) = true)
    (a17 : PySem.W.nsIn K mainGlobals "is_kind" = some (some (.ref f17)))
    (l17 : K.lookup f17 = some ⟨oc17, od17, .func (fO "is_kind" "is_kind" gz .none kv17 dc17 pm17 an17 cd17 ct17), sl17⟩)
    (c17 : PySem.W.codeIn K cd17 "is_kind" = true)
    (k17 : PySem.W.keepIn K (.ref f17) = true)
    (a18 : PySem.W.nsIn K mainGlobals "is_list_of_names" = some (some (.ref f18)))
    (l18 : K.lookup f18 = some ⟨oc18, od18, .func (fO "is_list_of_names" "is_list_of_names" Gz .none kv18 dc18 pm18 an18 cd18 ct18), sl18⟩)
    (c18 : PySem.W.codeIn K cd18 "is_list_of_names" = true)
    (k18 : PySem.W.keepIn K (.ref f18) = true)
    (a19 : PySem.W.nsIn K mainGlobals "is_bounded" = some (some (.ref f19)))
    (l19 : K.lookup f19 = some ⟨oc19, od19, .func (fO "is_bounded" "is_bounded" Ha .none kv19 dc19 pm19 an19 cd19 ct19), sl19⟩)
    (c19 : PySem.W.codeIn K cd19 "is_bounded" = true)
    (k19 : PySem.W.keepIn K (.ref f19) = true)
    (a20 : PySem.W.nsIn K mainGlobals "is_function" = some (some (.ref f20)))
    (l20 : K.lookup f20 = some ⟨oc20, od20, .func (fO "is_function" "is_function" Hb .none kv20 dc20 pm20 an20 cd20 ct20), sl20⟩)
    (c20 : PySem.W.codeIn K cd20 "is_function" = true)
    (k20 : PySem.W.keepIn K (.ref f20) = true)
    (a21 : PySem.W.nsIn K mainGlobals "check_wholes" = some (some (.ref f21)))
    (l21 : K.lookup f21 = some ⟨oc21, od21, .func (fO "check_wholes" "check_wholes" Ea .none kv21 dc21 pm21 an21 cd21 ct21), sl21⟩)
    (c21 : PySem.W.codeIn K cd21 "check_wholes" = true)
    (k21 : PySem.W.keepIn K (.ref f21) = true)
    (a22 : PySem.W.nsIn K mainGlobals "check_functions" = some (some (.ref f22)))
    (l22 : K.lookup f22 = some ⟨oc22, od22, .func (fO "check_functions" "check_functions" Hc .none kv22 dc22 pm22 an22 cd22 ct22), sl22⟩)
    (c22 : PySem.W.codeIn K cd22 "check_functions" = true)
    (k22 : PySem.W.keepIn K (.ref f22) = true)
    (a23 : PySem.W.nsIn K mainGlobals "check_names" = some (some (.ref f23)))
    (l23 : K.lookup f23 = some ⟨oc23, od23, .func (fO "check_names" "check_names" Hd .none kv23 dc23 pm23 an23 cd23 ct23), sl23⟩)
    (c23 : PySem.W.codeIn K cd23 "check_names" = true)
    (k23 : PySem.W.keepIn K (.ref f23) = true)
    (a24 : PySem.W.nsIn K mainGlobals "first_parts" = some (some (.ref f24)))
    (l24 : K.lookup f24 = some ⟨oc24, od24, .func (fO "first_parts" "first_parts" He .none kv24 dc24 pm24 an24 cd24 ct24), sl24⟩)
    (c24 : PySem.W.codeIn K cd24 "first_parts" = true)
    (k24 : PySem.W.keepIn K (.ref f24) = true)
    (a25 : PySem.W.nsIn K mainGlobals "check_unlike" = some (some (.ref f25)))
    (l25 : K.lookup f25 = some ⟨oc25, od25, .func (fO "check_unlike" "check_unlike" Hf .none kv25 dc25 pm25 an25 cd25 ct25), sl25⟩)
    (c25 : PySem.W.codeIn K cd25 "check_unlike" = true)
    (k25 : PySem.W.keepIn K (.ref f25) = true)
    (a26 : PySem.W.findIn K (.ref g8) "__init__" = some (some (.ref f26)))
    (i26 : PySem.W.isFn K (.ref f26) = true)
    (l26 : K.lookup f26 = some ⟨oc26, od26, .func (fO "__init__" "Names.__init__" Dk .none kv26 dc26 pm26 an26 cd26 ct26), sl26⟩)
    (c26 : PySem.W.codeIn K cd26 "Names.__init__" = true)
    (k26 : PySem.W.keepIn K (.ref f26) = true)
    (a32 : PySem.W.findIn K (.ref g8) "kind" = some (some (.ref f32)))
    (i32 : PySem.W.isFn K (.ref f32) = true)
    (l32 : K.lookup f32 = some ⟨oc32, od32, .func (fO "kind" "Names.kind" Ge .none kv32 dc32 pm32 an32 cd32 ct32), sl32⟩)
    (c32 : PySem.W.codeIn K cd32 "Names.kind" = true)
    (k32 : PySem.W.keepIn K (.ref f32) = true)
    (a34 : PySem.W.findIn K (.ref g8) "function" = some (some (.ref f34)))
    (i34 : PySem.W.isFn K (.ref f34) = true)
    (l34 : K.lookup f34 = some ⟨oc34, od34, .func (fO "function" "Names.function" gf .none kv34 dc34 pm34 an34 cd34 ct34), sl34⟩)
    (c34 : PySem.W.codeIn K cd34 "Names.function" = true)
    (k34 : PySem.W.keepIn K (.ref f34) = true)
    (a35 : PySem.W.nsIn K mainGlobals "_law_cell_at" = some (some (.ref f35)))
    (l35 : K.lookup f35 = some ⟨oc35, od35, .func (fO "_law_cell_at" "_law_cell_at" Gf .none kv35 dc35 pm35 an35 cd35 ct35), sl35⟩)
    (c35 : PySem.W.codeIn K cd35 "_law_cell_at" = true)
    (k35 : PySem.W.keepIn K (.ref f35) = true)
    (a36 : PySem.W.nsIn K mainGlobals "_law_digits" = some (some (.ref f36)))
    (l36 : K.lookup f36 = some ⟨oc36, od36, .func (fO "_law_digits" "_law_digits" Eo .none kv36 dc36 pm36 an36 cd36 ct36), sl36⟩)
    (c36 : PySem.W.codeIn K cd36 "_law_digits" = true)
    (k36 : PySem.W.keepIn K (.ref f36) = true)
    (a37 : PySem.W.nsIn K mainGlobals "_law_house" = some (some (.ref f37)))
    (l37 : K.lookup f37 = some ⟨oc37, od37, .func (fO "_law_house" "_law_house" Hg .none kv37 dc37 pm37 an37 cd37 ct37), sl37⟩)
    (c37 : PySem.W.codeIn K cd37 "_law_house" = true)
    (k37 : PySem.W.keepIn K (.ref f37) = true)
    (a38 : PySem.W.nsIn K mainGlobals "_law_thing" = some (some (.ref f38)))
    (l38 : K.lookup f38 = some ⟨oc38, od38, .func (fO "_law_thing" "_law_thing" Dl .none kv38 dc38 pm38 an38 cd38 ct38), sl38⟩)
    (c38 : PySem.W.codeIn K cd38 "_law_thing" = true)
    (k38 : PySem.W.keepIn K (.ref f38) = true)
    (a39 : PySem.W.nsIn K mainGlobals "_law_array" = some (some (.ref f39)))
    (l39 : K.lookup f39 = some ⟨oc39, od39, .func (fO "_law_array" "_law_array" du .none kv39 dc39 pm39 an39 cd39 ct39), sl39⟩)
    (c39 : PySem.W.codeIn K cd39 "_law_array" = true)
    (k39 : PySem.W.keepIn K (.ref f39) = true)
    (a40 : PySem.W.nsIn K mainGlobals "_law_fraction" = some (some (.ref f40)))
    (l40 : K.lookup f40 = some ⟨oc40, od40, .func (fO "_law_fraction" "_law_fraction" Gg .none kv40 dc40 pm40 an40 cd40 ct40), sl40⟩)
    (c40 : PySem.W.codeIn K cd40 "_law_fraction" = true)
    (k40 : PySem.W.keepIn K (.ref f40) = true)
    (a41 : PySem.W.nsIn K mainGlobals "_law_num" = some (some (.ref f41)))
    (l41 : K.lookup f41 = some ⟨oc41, od41, .func (fO "_law_num" "_law_num" Cs .none kv41 dc41 pm41 an41 cd41 ct41), sl41⟩)
    (c41 : PySem.W.codeIn K cd41 "_law_num" = true)
    (k41 : PySem.W.keepIn K (.ref f41) = true)
    (a42 : PySem.W.nsIn K mainGlobals "_law_refused" = some (some (.ref f42)))
    (l42 : K.lookup f42 = some ⟨oc42, od42, .func (fO "_law_refused" "_law_refused" Ep .none kv42 dc42 pm42 an42 cd42 ct42), sl42⟩)
    (c42 : PySem.W.codeIn K cd42 "_law_refused" = true)
    (k42 : PySem.W.keepIn K (.ref f42) = true)
    (a43 : PySem.W.nsIn K mainGlobals "_law_wrong" = some (some (.ref f43)))
    (l43 : K.lookup f43 = some ⟨oc43, od43, .func (fO "_law_wrong" "_law_wrong" Du .none kv43 dc43 pm43 an43 cd43 ct43), sl43⟩)
    (c43 : PySem.W.codeIn K cd43 "_law_wrong" = true)
    (k43 : PySem.W.keepIn K (.ref f43) = true)
    (a44 : PySem.W.nsIn K mainGlobals "_law_round" = some (some (.ref f44)))
    (l44 : K.lookup f44 = some ⟨oc44, od44, .func (fO "_law_round" "_law_round" er .none kv44 dc44 pm44 an44 cd44 ct44), sl44⟩)
    (c44 : PySem.W.codeIn K cd44 "_law_round" = true)
    (k44 : PySem.W.keepIn K (.ref f44) = true)
    (a45 : PySem.W.nsIn K mainGlobals "_law_deep" = some (some (.ref f45)))
    (l45 : K.lookup f45 = some ⟨oc45, od45, .func (fO "_law_deep" "_law_deep" Et .none kv45 dc45 pm45 an45 cd45 ct45), sl45⟩)
    (c45 : PySem.W.codeIn K cd45 "_law_deep" = true)
    (k45 : PySem.W.keepIn K (.ref f45) = true)
    (a46 : PySem.W.nsIn K mainGlobals "_law_depth_right" = some (some (.ref f46)))
    (l46 : K.lookup f46 = some ⟨oc46, od46, .func (fO "_law_depth_right" "_law_depth_right" eu .none kv46 dc46 pm46 an46 cd46 ct46), sl46⟩)
    (c46 : PySem.W.codeIn K cd46 "_law_depth_right" = true)
    (k46 : PySem.W.keepIn K (.ref f46) = true)
    (a47 : PySem.W.nsIn K mainGlobals "law" = some (some (.ref f47)))
    (l47 : K.lookup f47 = some ⟨oc47, od47, .func (fO "law" "law" Cw .none kv47 dc47 pm47 an47 cd47 ct47), sl47⟩)
    (c47 : PySem.W.codeIn K cd47 "law" = true)
    (k47 : PySem.W.keepIn K (.ref f47) = true)
    (gg_DEEPEST : PySem.W.nsIn K mainGlobals "DEEPEST" = some (some (.int 12 gt_DEEPEST)))
    (gg_LETTERS : PySem.W.nsIn K mainGlobals "LETTERS" = some (some (.str (Str.ofString "abcdefghijklmnopqrstuvwxyz") gt_LETTERS)))
    (gg_LONGEST_NAME : PySem.W.nsIn K mainGlobals "LONGEST_NAME" = some (some (.int 8 gt_LONGEST_NAME)))
    (gg_MOST_KINDS : PySem.W.nsIn K mainGlobals "MOST_KINDS" = some (some (.int 3 gt_MOST_KINDS)))
    (gg_MOST_VALUES : PySem.W.nsIn K mainGlobals "MOST_VALUES" = some (some (.int 3600 gt_MOST_VALUES)))
    (gg_WIDEST_BOUNDS : PySem.W.nsIn K mainGlobals "WIDEST_BOUNDS" = some (some (.int 60 gt_WIDEST_BOUNDS)))
    (gg_DEEDS : PySem.W.nsIn K mainGlobals "DEEDS" = some (some (.ref ta_DEEDS)))
    (gl_DEEDS : K.lookup ta_DEEDS = some ⟨.type "dict", none, .dict #[⟨th_DEEDS_0, .str (Str.ofString "number") tk_DEEDS_0, .ref f8⟩, ⟨th_DEEDS_1, .str (Str.ofString "unknown") tk_DEEDS_1, .ref f9⟩, ⟨th_DEEDS_2, .str (Str.ofString "weigh") tk_DEEDS_2, .ref f10⟩, ⟨th_DEEDS_3, .str (Str.ofString "plus") tk_DEEDS_3, .ref f11⟩, ⟨th_DEEDS_4, .str (Str.ofString "call") tk_DEEDS_4, .ref f12⟩, ⟨th_DEEDS_5, .str (Str.ofString "read") tk_DEEDS_5, .ref f13⟩, ⟨th_DEEDS_6, .str (Str.ofString "put") tk_DEEDS_6, .ref f14⟩] te_DEEDS, #[]⟩)
    (gm_DEEDS : (ta_DEEDS == sysModules) = false)
    (gg_LENGTHS : PySem.W.nsIn K mainGlobals "LENGTHS" = some (some (.ref ta_LENGTHS)))
    (gl_LENGTHS : K.lookup ta_LENGTHS = some ⟨.type "dict", none, .dict #[⟨th_LENGTHS_0, .str (Str.ofString "number") tk_LENGTHS_0, .int 2 tv_LENGTHS_0⟩, ⟨th_LENGTHS_1, .str (Str.ofString "unknown") tk_LENGTHS_1, .int 2 tv_LENGTHS_1⟩, ⟨th_LENGTHS_2, .str (Str.ofString "weigh") tk_LENGTHS_2, .int 3 tv_LENGTHS_2⟩, ⟨th_LENGTHS_3, .str (Str.ofString "plus") tk_LENGTHS_3, .int 2 tv_LENGTHS_3⟩, ⟨th_LENGTHS_4, .str (Str.ofString "call") tk_LENGTHS_4, .int 3 tv_LENGTHS_4⟩, ⟨th_LENGTHS_5, .str (Str.ofString "read") tk_LENGTHS_5, .int 3 tv_LENGTHS_5⟩, ⟨th_LENGTHS_6, .str (Str.ofString "put") tk_LENGTHS_6, .int 4 tv_LENGTHS_6⟩] te_LENGTHS, #[]⟩)
    (gm_LENGTHS : (ta_LENGTHS == sysModules) = false)
    (pg8 : PySem.W.plainGet K g8 Str.empty = true)
    (hd8 : PySem.W.hasDictIn K g8 = true)
    (po8 : PySem.W.plainOver K g8 = true)
    (sa8 : PySem.W.findIn K (.ref g8) "__setattr__" = some (some (.builtin "object.__setattr__")))
    (na_Names_arrays : PySem.W.findIn K (.ref g8) "arrays" = some none)
    (na_Names_deeds : PySem.W.findIn K (.ref g8) "deeds" = some none)
    (na_Names_functions : PySem.W.findIn K (.ref g8) "functions" = some none)
    (na_Names_limits : PySem.W.findIn K (.ref g8) "limits" = some none)
    (na_Names_numbers : PySem.W.findIn K (.ref g8) "numbers" = some none)
    (na_Names_things : PySem.W.findIn K (.ref g8) "things" = some none)
    (na_Names_unknowns : PySem.W.findIn K (.ref g8) "unknowns" = some none)
    (na_Names_wholes : PySem.W.findIn K (.ref g8) "wholes" = some none)
    (mk8 : PySem.W.makesIn K g8 = true)
    (kc8 : PySem.W.keepIn K (.ref g8) = true)
    (xc1 : PySem.W.excIn K g1 [.type "ValueError", .type "Exception", .type "BaseException", .type "object"] "ValueError.__new__" = true)
    (ecl1 : PySem.W.clsIn K g1 = some ci1)
    (ega1 : PySem.W.findIn K (.ref g1) "__getattribute__" = some (some (.builtin "BaseException.__getattribute__")))
    (egn1 : PySem.W.findIn K (.ref g1) "__getattr__" = some none)
    (eha1 : PySem.W.findIn K (.ref g1) "__class__" = some (some (.builtin "object.__class__")))
    (eob1 : PySem.W.mroIn K g1 (.type "object") = some true)
    (ebe1 : PySem.W.mroIn K g1 (.type "BaseException") = some true)
    (xc2 : PySem.W.excIn K g2 [.type "ValueError", .type "Exception", .type "BaseException", .type "object"] "ValueError.__new__" = true)
    (ecl2 : PySem.W.clsIn K g2 = some ci2)
    (ega2 : PySem.W.findIn K (.ref g2) "__getattribute__" = some (some (.builtin "BaseException.__getattribute__")))
    (egn2 : PySem.W.findIn K (.ref g2) "__getattr__" = some none)
    (eha2 : PySem.W.findIn K (.ref g2) "__class__" = some (some (.builtin "object.__class__")))
    (eob2 : PySem.W.mroIn K g2 (.type "object") = some true)
    (ebe2 : PySem.W.mroIn K g2 (.type "BaseException") = some true)
    (ehn : PySem.W.specialIn K (.builtin "object.__class__") "__get__" = some (some (.builtin "getset_descriptor.__get__")))
    (etk : PySem.W.takesIn K (.builtin "object.__class__") = some true)
    (kt_BadNames_BadNames : PySem.W.kitOne K (.ref g1) (.ref g1) = some true)
    (kt_BadNames_BadStatement : PySem.W.kitOne K (.ref g1) (.ref g3) = some false)
    (kt_BadNames_BadTerm : PySem.W.kitOne K (.ref g1) (.ref g2) = some false)
    (kt_BadNames_NoNumber : PySem.W.kitOne K (.ref g1) (.ref g7) = some false)
    (kt_BadNames_NoRow : PySem.W.kitOne K (.ref g1) (.ref g6) = some false)
    (kt_BadNames_NoText : PySem.W.kitOne K (.ref g1) (.ref g5) = some false)
    (kt_BadNames_NotTold : PySem.W.kitOne K (.ref g1) (.ref g4) = some false)
    (kt_BadNames_ValueError : PySem.W.kitOne K (.ref g1) (.type "ValueError") = some true)
    (kt_BadTerm_BadNames : PySem.W.kitOne K (.ref g2) (.ref g1) = some false)
    (kt_BadTerm_BadStatement : PySem.W.kitOne K (.ref g2) (.ref g3) = some false)
    (kt_BadTerm_BadTerm : PySem.W.kitOne K (.ref g2) (.ref g2) = some true)
    (kt_BadTerm_NoNumber : PySem.W.kitOne K (.ref g2) (.ref g7) = some false)
    (kt_BadTerm_NoRow : PySem.W.kitOne K (.ref g2) (.ref g6) = some false)
    (kt_BadTerm_NoText : PySem.W.kitOne K (.ref g2) (.ref g5) = some false)
    (kt_BadTerm_NotTold : PySem.W.kitOne K (.ref g2) (.ref g4) = some false)
    (kt_BadTerm_ValueError : PySem.W.kitOne K (.ref g2) (.type "ValueError") = some true)
    (xm_BadNames_PartError : PySem.W.exmOne K (.ref g1) (.ref g0) = some true)
    (xm_BadTerm_PartError : PySem.W.exmOne K (.ref g2) (.ref g0) = some true)
    (z_ValueError : PySem.W.nsIn K mainGlobals "ValueError" = some none)
    (z_abs : PySem.W.nsIn K mainGlobals "abs" = some none)
    (z_all : PySem.W.nsIn K mainGlobals "all" = some none)
    (z_bool : PySem.W.nsIn K mainGlobals "bool" = some none)
    (z_int : PySem.W.nsIn K mainGlobals "int" = some none)
    (z_isinstance : PySem.W.nsIn K mainGlobals "isinstance" = some none)
    (z_len : PySem.W.nsIn K mainGlobals "len" = some none)
    (z_list : PySem.W.nsIn K mainGlobals "list" = some none)
    (z_range : PySem.W.nsIn K mainGlobals "range" = some none)
    (z_set : PySem.W.nsIn K mainGlobals "set" = some none)
    (z_str : PySem.W.nsIn K mainGlobals "str" = some none)
    (z_tuple : PySem.W.nsIn K mainGlobals "tuple" = some none)
    (z_zip : PySem.W.nsIn K mainGlobals "zip" = some none)
    : ∃ (ad : Nat → Addr) (fd : Nat → FuncData) (cf : Nat → Addr), Txt K mg fd ⟨w, cf, ad⟩ ∧ ∀ (s : Shared) (u : Value), BindsTo s (fd 47) ⟨[u], []⟩ [("_law_script", u)] := by
  refine ⟨(sy [0, f1, f2, f3, f4, f5, f6, f7, f8, f9, f10, f11, f12, f13, f14, f15, f16, f17, f18, f19, f20, f21, f22, f23, f24, f25, f26, 0, 0, 0, 0, 0, f32, 0, f34, f35, f36, f37, f38, f39, f40, f41, f42, f43, f44, f45, f46, f47]), (fun i => ([default, fO "is_whole" "is_whole" Gw .none kv1 dc1 pm1 an1 cd1 ct1, fO "is_fraction" "is_fraction" Fj .none kv2 dc2 pm2 an2 cd2 ct2, fO "common_divisor" "common_divisor" gd .none kv3 dc3 pm3 an3 cd3 ct3, fO "word_of" "word_of" gx .none kv4 dc4 pm4 an4 cd4 ct4, fO "kind_of" "kind_of" Gd .none kv5 dc5 pm5 an5 cd5 ct5, fO "kind_within" "kind_within" Dz .none kv6 dc6 pm6 an6 cd6 ct6, fO "check_kinds" "check_kinds" dt .none kv7 dc7 pm7 an7 cd7 ct7, fO "kind_of_number" "kind_of_number" Gx .none kv8 dc8 pm8 an8 cd8 ct8, fO "kind_of_unknown" "kind_of_unknown" fk .none kv9 dc9 pm9 an9 cd9 ct9, fO "kind_of_weigh" "kind_of_weigh" fm .none kv10 dc10 pm10 an10 cd10 ct10, fO "kind_of_plus" "kind_of_plus" Fm .none kv11 dc11 pm11 an11 cd11 ct11, fO "kind_of_call" "kind_of_call" Dt .none kv12 dc12 pm12 an12 cd12 ct12, fO "kind_of_read" "kind_of_read" fo .none kv13 dc13 pm13 an13 cd13 ct13, fO "kind_of_put" "kind_of_put" Fo .none kv14 dc14 pm14 an14 cd14 ct14, fO "is_name" "is_name" gy .none kv15 dc15 pm15 an15 cd15 ct15, fO "is_row" "is_row" Gy .none kv16 dc16 pm16 an16 cd16 ct16, fO "is_kind" "is_kind" gz .none kv17 dc17 pm17 an17 cd17 ct17, fO "is_list_of_names" "is_list_of_names" Gz .none kv18 dc18 pm18 an18 cd18 ct18, fO "is_bounded" "is_bounded" Ha .none kv19 dc19 pm19 an19 cd19 ct19, fO "is_function" "is_function" Hb .none kv20 dc20 pm20 an20 cd20 ct20, fO "check_wholes" "check_wholes" Ea .none kv21 dc21 pm21 an21 cd21 ct21, fO "check_functions" "check_functions" Hc .none kv22 dc22 pm22 an22 cd22 ct22, fO "check_names" "check_names" Hd .none kv23 dc23 pm23 an23 cd23 ct23, fO "first_parts" "first_parts" He .none kv24 dc24 pm24 an24 cd24 ct24, fO "check_unlike" "check_unlike" Hf .none kv25 dc25 pm25 an25 cd25 ct25, fO "__init__" "Names.__init__" Dk .none kv26 dc26 pm26 an26 cd26 ct26, default, default, default, default, default, fO "kind" "Names.kind" Ge .none kv32 dc32 pm32 an32 cd32 ct32, default, fO "function" "Names.function" gf .none kv34 dc34 pm34 an34 cd34 ct34, fO "_law_cell_at" "_law_cell_at" Gf .none kv35 dc35 pm35 an35 cd35 ct35, fO "_law_digits" "_law_digits" Eo .none kv36 dc36 pm36 an36 cd36 ct36, fO "_law_house" "_law_house" Hg .none kv37 dc37 pm37 an37 cd37 ct37, fO "_law_thing" "_law_thing" Dl .none kv38 dc38 pm38 an38 cd38 ct38, fO "_law_array" "_law_array" du .none kv39 dc39 pm39 an39 cd39 ct39, fO "_law_fraction" "_law_fraction" Gg .none kv40 dc40 pm40 an40 cd40 ct40, fO "_law_num" "_law_num" Cs .none kv41 dc41 pm41 an41 cd41 ct41, fO "_law_refused" "_law_refused" Ep .none kv42 dc42 pm42 an42 cd42 ct42, fO "_law_wrong" "_law_wrong" Du .none kv43 dc43 pm43 an43 cd43 ct43, fO "_law_round" "_law_round" er .none kv44 dc44 pm44 an44 cd44 ct44, fO "_law_deep" "_law_deep" Et .none kv45 dc45 pm45 an45 cd45 ct45, fO "_law_depth_right" "_law_depth_right" eu .none kv46 dc46 pm46 an46 cd46 ct46, fO "law" "law" Cw .none kv47 dc47 pm47 an47 cd47 ct47] : List FuncData).getD i default), (sy [g0, g1, g2, g3, g4, g5, g6, g7, g8]), ⟨
    (Bb (st := Gw) l1 c1 k1),
    (PySem.W.mg_of X G a1),
    (afy),
    (Bb (st := Fj) l2 c2 k2),
    (PySem.W.mg_of X G a2),
    (afz),
    (Bb (st := gd) l3 c3 k3),
    (PySem.W.mg_of X G a3),
    (aga),
    (Bb (st := gx) l4 c4 k4),
    (PySem.W.mg_of X G a4),
    (agb),
    (Bb (st := Gd) l5 c5 k5),
    (PySem.W.mg_of X G a5),
    (agc),
    (Bb (st := Dz) l6 c6 k6),
    (PySem.W.mg_of X G a6),
    (agd),
    (Bb (st := dt) l7 c7 k7),
    (PySem.W.mg_of X G a7),
    (age),
    (Bb (st := Gx) l8 c8 k8),
    (PySem.W.mg_of X G a8),
    (agf),
    (Bb (st := fk) l9 c9 k9),
    (PySem.W.mg_of X G a9),
    (agg),
    (Bb (st := fm) l10 c10 k10),
    (PySem.W.mg_of X G a10),
    (agh),
    (Bb (st := Fm) l11 c11 k11),
    (PySem.W.mg_of X G a11),
    (agi),
    (Bb (st := Dt) l12 c12 k12),
    (PySem.W.mg_of X G a12),
    (agj),
    (Bb (st := fo) l13 c13 k13),
    (PySem.W.mg_of X G a13),
    (agk),
    (Bb (st := Fo) l14 c14 k14),
    (PySem.W.mg_of X G a14),
    (agl),
    (Bb (st := gy) l15 c15 k15),
    (PySem.W.mg_of X G a15),
    (agm),
    (Bb (st := Gy) l16 c16 k16),
    (PySem.W.mg_of X G a16),
    (agn),
    (Bb (st := gz) l17 c17 k17),
    (PySem.W.mg_of X G a17),
    (ago),
    (Bb (st := Gz) l18 c18 k18),
    (PySem.W.mg_of X G a18),
    (agp),
    (Bb (st := Ha) l19 c19 k19),
    (PySem.W.mg_of X G a19),
    (agq),
    (Bb (st := Hb) l20 c20 k20),
    (PySem.W.mg_of X G a20),
    (agr),
    (Bb (st := Ea) l21 c21 k21),
    (PySem.W.mg_of X G a21),
    (ags),
    (Bb (st := Hc) l22 c22 k22),
    (PySem.W.mg_of X G a22),
    (agt),
    (Bb (st := Hd) l23 c23 k23),
    (PySem.W.mg_of X G a23),
    (agu),
    (Bb (st := He) l24 c24 k24),
    (PySem.W.mg_of X G a24),
    (agv),
    (Bb (st := Hf) l25 c25 k25),
    (PySem.W.mg_of X G a25),
    (agw),
    (Bb (st := Dk) l26 c26 k26),
    (agx),
    (Bb (st := Ge) l32 c32 k32),
    (agy),
    (Bb (st := gf) l34 c34 k34),
    (agz),
    (Bb (st := Gf) l35 c35 k35),
    (PySem.W.mg_of X G a35),
    (aha),
    (Bb (st := Eo) l36 c36 k36),
    (PySem.W.mg_of X G a36),
    (ahb),
    (Bb (st := Hg) l37 c37 k37),
    (PySem.W.mg_of X G a37),
    (ahc),
    (Bb (st := Dl) l38 c38 k38),
    (PySem.W.mg_of X G a38),
    (ahd),
    (Bb (st := du) l39 c39 k39),
    (PySem.W.mg_of X G a39),
    (ahe),
    (Bb (st := Gg) l40 c40 k40),
    (PySem.W.mg_of X G a40),
    (ahf),
    (Bb (st := Cs) l41 c41 k41),
    (PySem.W.mg_of X G a41),
    (ahg),
    (Bb (st := Ep) l42 c42 k42),
    (PySem.W.mg_of X G a42),
    (ahh),
    (Bb (st := Du) l43 c43 k43),
    (PySem.W.mg_of X G a43),
    (ahi),
    (Bb (st := er) l44 c44 k44),
    (PySem.W.mg_of X G a44),
    (ahj),
    (Bb (st := Et) l45 c45 k45),
    (PySem.W.mg_of X G a45),
    (ahk),
    (Bb (st := eu) l46 c46 k46),
    (PySem.W.mg_of X G a46),
    (ahl),
    (Bb (st := Cw) l47 c47 k47),
    (PySem.W.mg_of X G a47),
    (ahm),
    (⟨_, PySem.W.mg_of X G gg_DEEPEST, ⟨_, rfl⟩⟩),
    (⟨_, PySem.W.mg_of X G gg_LETTERS, ⟨_, rfl⟩⟩),
    (⟨_, PySem.W.mg_of X G gg_LONGEST_NAME, ⟨_, rfl⟩⟩),
    (⟨_, PySem.W.mg_of X G gg_MOST_KINDS, ⟨_, rfl⟩⟩),
    (⟨_, PySem.W.mg_of X G gg_MOST_VALUES, ⟨_, rfl⟩⟩),
    (⟨_, PySem.W.mg_of X G gg_WIDEST_BOUNDS, ⟨_, rfl⟩⟩),
    (⟨_, _, _, _, PySem.W.mg_of X G gg_DEEDS, gl_DEEDS, ⟨rfl, rfl, rfl⟩, rfl, gm_DEEDS, .cons rfl rfl (.cons rfl rfl (.cons rfl rfl (.cons rfl rfl (.cons rfl rfl (.cons rfl rfl (.cons rfl rfl (.nil)))))))⟩),
    (⟨_, _, _, _, PySem.W.mg_of X G gg_LENGTHS, gl_LENGTHS, ⟨rfl, rfl, rfl⟩, rfl, gm_LENGTHS, .cons rfl ⟨_, rfl⟩ (.cons rfl ⟨_, rfl⟩ (.cons rfl ⟨_, rfl⟩ (.cons rfl ⟨_, rfl⟩ (.cons rfl ⟨_, rfl⟩ (.cons rfl ⟨_, rfl⟩ (.cons rfl ⟨_, rfl⟩ (.nil)))))))⟩),
    (⟨pg8, hd8, po8, sa8⟩),
    (na_Names_arrays),
    (na_Names_deeds),
    (na_Names_functions),
    (na_Names_limits),
    (na_Names_numbers),
    (na_Names_things),
    (na_Names_unknowns),
    (na_Names_wholes),
    (⟨a34, i34, k34⟩),
    (⟨a32, i32, k32⟩),
    (⟨mk8, a26, i26, kc8⟩),
    (PySem.W.mg_of X G ac1),
    (PySem.W.mg_of X G ac3),
    (PySem.W.mg_of X G ac2),
    (PySem.W.mg_of X G ac8),
    (PySem.W.mg_of X G ac7),
    (PySem.W.mg_of X G ac6),
    (PySem.W.mg_of X G ac5),
    (PySem.W.mg_of X G ac4),
    (PySem.W.mg_of X G ac0),
    (ac1),
    (xc1),
    (ac2),
    (xc2),
    (by
    intro n k h
    unfold tab at h
    split at h
    · have e := Option.some.inj (h.symm.trans (by rfl : _ = some true)); subst e; exact ⟨⟨Option.isSome_iff_exists.mpr ⟨_, ecl1⟩, ega1, egn1, eha1, ehn, etk, eob1, ebe1⟩, kt_BadNames_BadNames⟩
    · have e := Option.some.inj (h.symm.trans (by rfl : _ = some false)); subst e; exact ⟨⟨Option.isSome_iff_exists.mpr ⟨_, ecl2⟩, ega2, egn2, eha2, ehn, etk, eob2, ebe2⟩, kt_BadTerm_BadNames⟩
    · cases h),
    (by
    intro n k h
    unfold tab at h
    split at h
    · have e := Option.some.inj (h.symm.trans (by rfl : _ = some false)); subst e; exact ⟨⟨Option.isSome_iff_exists.mpr ⟨_, ecl1⟩, ega1, egn1, eha1, ehn, etk, eob1, ebe1⟩, kt_BadNames_BadStatement⟩
    · have e := Option.some.inj (h.symm.trans (by rfl : _ = some false)); subst e; exact ⟨⟨Option.isSome_iff_exists.mpr ⟨_, ecl2⟩, ega2, egn2, eha2, ehn, etk, eob2, ebe2⟩, kt_BadTerm_BadStatement⟩
    · cases h),
    (by
    intro n k h
    unfold tab at h
    split at h
    · have e := Option.some.inj (h.symm.trans (by rfl : _ = some false)); subst e; exact ⟨⟨Option.isSome_iff_exists.mpr ⟨_, ecl1⟩, ega1, egn1, eha1, ehn, etk, eob1, ebe1⟩, kt_BadNames_BadTerm⟩
    · have e := Option.some.inj (h.symm.trans (by rfl : _ = some true)); subst e; exact ⟨⟨Option.isSome_iff_exists.mpr ⟨_, ecl2⟩, ega2, egn2, eha2, ehn, etk, eob2, ebe2⟩, kt_BadTerm_BadTerm⟩
    · cases h),
    (by
    intro n k h
    unfold tab at h
    split at h
    · have e := Option.some.inj (h.symm.trans (by rfl : _ = some false)); subst e; exact ⟨⟨Option.isSome_iff_exists.mpr ⟨_, ecl1⟩, ega1, egn1, eha1, ehn, etk, eob1, ebe1⟩, kt_BadNames_NoNumber⟩
    · have e := Option.some.inj (h.symm.trans (by rfl : _ = some false)); subst e; exact ⟨⟨Option.isSome_iff_exists.mpr ⟨_, ecl2⟩, ega2, egn2, eha2, ehn, etk, eob2, ebe2⟩, kt_BadTerm_NoNumber⟩
    · cases h),
    (by
    intro n k h
    unfold tab at h
    split at h
    · have e := Option.some.inj (h.symm.trans (by rfl : _ = some false)); subst e; exact ⟨⟨Option.isSome_iff_exists.mpr ⟨_, ecl1⟩, ega1, egn1, eha1, ehn, etk, eob1, ebe1⟩, kt_BadNames_NoRow⟩
    · have e := Option.some.inj (h.symm.trans (by rfl : _ = some false)); subst e; exact ⟨⟨Option.isSome_iff_exists.mpr ⟨_, ecl2⟩, ega2, egn2, eha2, ehn, etk, eob2, ebe2⟩, kt_BadTerm_NoRow⟩
    · cases h),
    (by
    intro n k h
    unfold tab at h
    split at h
    · have e := Option.some.inj (h.symm.trans (by rfl : _ = some false)); subst e; exact ⟨⟨Option.isSome_iff_exists.mpr ⟨_, ecl1⟩, ega1, egn1, eha1, ehn, etk, eob1, ebe1⟩, kt_BadNames_NoText⟩
    · have e := Option.some.inj (h.symm.trans (by rfl : _ = some false)); subst e; exact ⟨⟨Option.isSome_iff_exists.mpr ⟨_, ecl2⟩, ega2, egn2, eha2, ehn, etk, eob2, ebe2⟩, kt_BadTerm_NoText⟩
    · cases h),
    (by
    intro n k h
    unfold tab at h
    split at h
    · have e := Option.some.inj (h.symm.trans (by rfl : _ = some false)); subst e; exact ⟨⟨Option.isSome_iff_exists.mpr ⟨_, ecl1⟩, ega1, egn1, eha1, ehn, etk, eob1, ebe1⟩, kt_BadNames_NotTold⟩
    · have e := Option.some.inj (h.symm.trans (by rfl : _ = some false)); subst e; exact ⟨⟨Option.isSome_iff_exists.mpr ⟨_, ecl2⟩, ega2, egn2, eha2, ehn, etk, eob2, ebe2⟩, kt_BadTerm_NotTold⟩
    · cases h),
    (by
    intro n k h
    unfold tab at h
    split at h
    · have e := Option.some.inj (h.symm.trans (by rfl : _ = some true)); subst e; exact ⟨⟨Option.isSome_iff_exists.mpr ⟨_, ecl1⟩, ega1, egn1, eha1, ehn, etk, eob1, ebe1⟩, kt_BadNames_ValueError⟩
    · have e := Option.some.inj (h.symm.trans (by rfl : _ = some true)); subst e; exact ⟨⟨Option.isSome_iff_exists.mpr ⟨_, ecl2⟩, ega2, egn2, eha2, ehn, etk, eob2, ebe2⟩, kt_BadTerm_ValueError⟩
    · cases h),
    (by
    intro n h
    unfold tab at h
    split at h
    · exact xm_BadNames_PartError
    · exact xm_BadTerm_PartError
    · cases h),
    (PySem.W.mg_none_of X G z_ValueError),
    (PySem.W.mg_none_of X G z_abs),
    (PySem.W.mg_none_of X G z_all),
    (PySem.W.mg_none_of X G z_bool),
    (PySem.W.mg_none_of X G z_int),
    (PySem.W.mg_none_of X G z_isinstance),
    (PySem.W.mg_none_of X G z_len),
    (PySem.W.mg_none_of X G z_list),
    (PySem.W.mg_none_of X G z_range),
    (PySem.W.mg_none_of X G z_set),
    (PySem.W.mg_none_of X G z_str),
    (PySem.W.mg_none_of X G z_tuple),
    (PySem.W.mg_none_of X G z_zip)⟩, fun s u => .of_eq (afx _ _ _ _ _ _ [u] rfl)⟩
def Np (FF n : Nat) : List D → Sto → Res D := Bw tab fns FF n 47
theorem walk {n : Nat} {l : PySem.W.OpenLaw} {q : Program} {loose : List Str} {XP : (Str → Option Value) → Heap → Prop} {YP : World → Heap → Prop} {d : DefRec} {K : Params → PySem.W.Frag} (hn : l.most = some 63) (hdf : d.params.defaults = []) (hN : d.name = "law") (hr : Room (2 * n) callerA)
    (hY : ∀ (w : World) (h : Heap), YP w h → (K w.params).In h)
    (hT : ∀ (w : World) (mg : Str → Option Value) (h : Heap), (K w.params).In h → h.Ns mainGlobals mg → ∃ (ad : Nat → Addr) (fd : Nat → FuncData) (cf : Nat → Addr), Txt (K w.params) mg fd ⟨w, cf, ad⟩ ∧ ∀ (s : Shared) (u : Value), BindsTo s (fd 47) ⟨[u], []⟩ [("_law_script", u)])
    (hm : ∀ ns : List Int, ns.length ≤ 63 → ∃ FF st, Np FF n [.loc 0] [.frz (ns.map D.int)] = .ok (.bl true) st) :
    PySem.W.WalkO q loose XP YP l.row.toRowW d [] (fun f vs => PySem.call f vs) := by
  refine L2.Xg (n := 63) (k := 2 * n) (x := "_law_script") (CX := fun w => CXd l.prog w) (sp := fun w vs H Q E => ∀ cls, ∃ FF, spD (K w.params) cls 1 (Np FF n) vs H Q E) hn (by decide) hdf hr hY ?_ ?_ fun w H s e s' z => Zl H s e s' z
  · intro w mg fa h X G hfa
    obtain ⟨ad, fd, cf, T, hb⟩ := hT w mg h X G
    rw [hN, T.m_47] at hfa
    cases hfa
    refine ⟨fd 47, hb, fun base _ _ => ?_⟩
    have F := fun FF => (Sx (Pr := l.prog) (w := w) (base := base) (FF := FF) (cls := ⟨w, cf, ad⟩) rfl T n).i_47
    exact ⟨fun vs H Q E h => let ⟨FF, h⟩ := h ⟨w, cf, ad⟩; (F FF).len vs H Q E h, fun A outer s H args us vs Q E h1 h2 h3 h4 h => let ⟨FF, h⟩ := h ⟨w, cf, ad⟩; (F FF).run A outer s H args us vs Q E h1 h2 h3 h4 h⟩
  · exact fun w H a ns hl hO hS cls => let ⟨FF, st, e⟩ := hm ns hl; ⟨FF, zl e H a hO hS⟩
end My
namespace My
open PySem L2 DD
abbrev W (x : String) : D := .str (Str.ofString x)
abbrev NL : Nat := 6
abbrev DL : Nat := 42
abbrev UL : Nat := 45
def UNK : List (D × D) := [(W "x", W "num"), (W "y", W "num"), (W "put", W "num"), (W "k", W "num"), (W "m", W "num"), (W "p", W "thing"), (W "q", W "thing"), (W "read", W "thing"), (W "a", W "array"), (W "b", W "array")]
def DEE : List (D × D) := [(W "f", .tup [.tup [W "num"], W "num"]), (W "g", .tup [.tup [W "num", W "thing"], W "num"]), (W "h", .tup [.tup [W "thing"], W "thing"]), (W "plus", .tup [.tup [W "thing", W "num", W "num"], W "thing"])]
def FLD : List (Str × D) := [(Str.ofString "numbers", .loc 36), (Str.ofString "wholes", .loc 37), (Str.ofString "things", .loc 38), (Str.ofString "functions", .loc 39), (Str.ofString "arrays", .loc 40), (Str.ofString "limits", .loc 41), (Str.ofString "deeds", .loc 42), (Str.ofString "unknowns", .loc 45)]
theorem aho : FLD.lookup (Str.ofString "unknowns") = some (.loc 45) := by decide +kernel
theorem ahp : FLD.lookup (Str.ofString "deeds") = some (.loc 42) := by decide +kernel
theorem Sy : FLD.lookup (Str.ofString "kind") = none := by decide +kernel
theorem nq : FLD.lookup (Str.ofString "function") = none := by decide +kernel
def STO (X : List D) : Sto := match Bw tab fns 9 9 37 [] [.frz X] with | .ok _ s => s | _ => []
theorem ahq : Bw tab fns FF (n + 9) 37 [] [.frz X] = .ok (.loc 6) (STO X) := by kernel_rfl
theorem ahr : (STO X)[0]? = some (.frz X) := by kernel_rfl
theorem ahs : (STO X)[6]? = some (.ins 8 FLD) := by kernel_rfl
theorem aht : (STO X)[42]? = some (.dct DEE) := by kernel_rfl
theorem ahu : (STO X)[45]? = some (.dct UNK) := by kernel_rfl
section
variable {α β : Type} {t : Nat → Ty → Option Bool} {call : Or} {F : Nat} {env : DD.Env} {st : Sto} {P P' : Sto → Prop}
def Xr (P : Sto → Prop) (r : Res α) : Prop := ∃ s, r = .exc 2 s ∧ P s
theorem Xr.imp {r : Res α} (h : Xr P r) (g : ∀ s, P s → P' s) : Xr P' r := by obtain ⟨s, e, h⟩ := h; exact ⟨s, e, g s h⟩
theorem Hm (h : Xr P r) : Xr P (r.bind f) := by obtain ⟨s, rfl, h⟩ := h; exact ⟨s, rfl, h⟩
theorem Hn (h : Wr r fun a s => Xr P (f a s)) : Xr P (r.bind f) := by obtain ⟨a, s, rfl, h⟩ := h; exact h
theorem Bz {c : S} {r : Ss} (h : Xr P (An t call F c env st)) : Xr P (aj t call F (.cons c r) env st) := by rw [DD.mn]; exact Hm h
theorem Dm {c : S} {r : Ss} (h : Wr (An t call F c env st) fun f s => ∃ env', f = .next env' ∧ Xr P (aj t call F r env' s)) : Xr P (aj t call F (.cons c r) env st) := by
 rw [DD.mn]
 refine Hn (h.imp fun f s h => ?_)
 obtain ⟨env', rfl, h⟩ := h
 exact h
theorem x_raise (h : P st) : Xr P (An t call F (.raiseS 2) env st) := ⟨st, by rw [An], h⟩
theorem dn (h : P st) : Xr P (aj t call F (.cons (.raiseS 2) r) env st) := Bz (x_raise h)
theorem Iw (h : Xr P (Ad t call e env st)) : Xr P (An t call F (.ex e) env st) := by rw [DD.qv]; exact Hm h
theorem Sz (h : Xr P (Ad t call e env st)) : Xr P (An t call F (.ret e) env st) := by rw [DD.Qu]; exact Hm h
theorem Ez (h : Wr (aq t call c env st) fun x s => (x = true → Xr P (aj t call F a env s)) ∧ (x = false → Xr P (aj t call F b env s))) : Xr P (An t call F (.ifS c a b) env st) := by
 rw [DD.Mn]
 refine Hn (h.imp fun x s h => ?_)
 cases x with
 | true => exact h.1 rfl
 | false => exact h.2 rfl
theorem ahv (h : Xr P (aq t call c env st)) : Xr P (An t call F (.ifS c a b) env st) := by rw [DD.Mn]; exact Hm h
theorem gj (h : Wr (Au t call es env st) fun ds s => Xr P (call f (ds ++ dv) s)) : Xr P (Ad t call (.call f es dv) env st) := by rw [Ad]; exact Hn h
theorem ahw (h : Wr (Ad t call f env st) fun x s => ∃ n i, x = .loc n ∧ s[n]? = some (.fnc i) ∧ is.contains i = true ∧ Wr (Au t call es env s) fun ds s => Xr P (call i ds s)) : Xr P (Ad t call (.callV is f es) env st) := by
 rw [Ad]
 refine Hn (h.imp fun x s h => ?_)
 obtain ⟨n, i, rfl, e, hi, h⟩ := h
 simp only [e, hi, if_true]
 exact Hn h
theorem ahx (h : Xr P (Ad t call a env st)) : Xr P (aq t call (.cm o a b) env st) := by rw [aq]; exact Hm h
theorem ahy {t1 t2 : List Nat} {o1 o2 : Bool} {a c : E} {b : Ss} (h : Wr (Au t call (.cons a (.cons c .nil)) env st) fun ds s => ∃ xs ys, ds = [.tup xs, .tup ys] ∧ xs.length ≤ ys.length ∧ Xr P (By (fun _ => true) (gw t call F t1 o1 t2 o2 b) (fe xs ys) env s)) : Xr P (An t call F (.forZT t1 o1 t2 o2 a c b) env st) := by
 rw [An]
 refine Hn (h.imp fun ds s h => ?_)
 obtain ⟨xs, ys, rfl, hl, h⟩ := h
 simp only [hl, if_true]; exact h
theorem Ta {t1 t2 : List Nat} {o1 o2 : Bool} {b : Ss} {d : D} {env' : DD.Env} (h : Gq t1 o1 t2 o2 d env = some env') (w : Xr P (aj t call F b env' st)) : Xr P (gw t call F t1 o1 t2 o2 b d env st) := by
 unfold gw; rw [h]; exact w
theorem Tb (h : Xr P (body d env st)) : Xr P (By (fun _ => true) body (d :: r) env st) := by
 simp only [By, if_true]; exact Hm h
theorem ahz (h : Wr (body d env st) fun f s => ∃ env', f = .next env' ∧ Xr P (By (fun _ => true) body r env' s)) : Xr P (By (fun _ => true) body (d :: r) env st) := by
 simp only [By, if_true]
 refine Hn (h.imp fun f s h => ?_)
 obtain ⟨env', rfl, h⟩ := h
 exact h
theorem Ct {fns : List Fn} {n f np nl : Nat} {b : Ss} {args : List D} (env : DD.Env) (h : fns[f]? = some ⟨np, nl, b⟩) (hl : args.length = np) (hn : np ≤ nl) (he : args.map some ++ List.replicate (nl - np) none = env) (w : Xr P (aj t (Bw t fns F n) F b env st)) : Xr P (Bw t fns F (n + 1) f args st) := by
  show Xr P (match fns[f]? with
      | some fn => if args.length = fn.np ∧ fn.np ≤ fn.nl then fin (aj t (Bw t fns F n) F fn.body (args.map some ++ List.replicate (fn.nl - fn.np) none) st) else .bad
      | none => .bad)
  rw [h]; simp only; rw [if_pos ⟨hl, hn⟩, he]
  unfold fin
  exact Hm w
end
section
variable {FF n : Nat} {st : Sto}
abbrev C (FF n : Nat) := Bw tab fns FF n
def Ex (s s' : Sto) : Prop := ∀ (i : Nat) (c : Cell), s[i]? = some c → s'[i]? = some c
theorem Ex.refl (s : Sto) : Ex s s := fun _ _ h => h
theorem Ex.trans {a b c : Sto} (h : Ex a b) (g : Ex b c) : Ex a c := fun i x e => g i x (h i x e)
theorem Ex.app : Ex s (s ++ m) := fun i c e => by rw [List.getElem?_append_left (List.getElem?_eq_some_iff.mp e).1]; exact e
theorem Ex.one : Ex s (s ++ [c]) := Ex.app
theorem Ex.at {a b : Sto} (h : Ex a b) {i : Nat} {c : Cell} (e : a[i]? = some c) : b[i]? = some c := h i c e
structure Has (s : Sto) : Prop where
 i : s[NL]? = some (.ins 8 FLD)
 d : s[DL]? = some (.dct DEE)
 u : s[UL]? = some (.dct UNK)
theorem Has.ex {a b : Sto} (h : Has a) (e : Ex a b) : Has b := ⟨e.at h.i, e.at h.d, e.at h.u⟩
theorem aia : C FF (n + 1) 4 [.tup [.str x]] st = .ok (.str x) st := by kernel_rfl
theorem aib : C FF (n + 1) 4 [.tup [.str x, a]] st = .ok (.str x) st := by kernel_rfl
theorem aic : C FF (n + 1) 4 [.tup [.str x, a, b]] st = .ok (.str x) st := by kernel_rfl
theorem aid : C FF (n + 1) 4 [.tup [.str x, a, b, c]] st = .ok (.str x) st := by kernel_rfl
theorem Nq (h : r.length ≤ 3) : C FF (n + 1) 4 [.tup (.str x :: r)] st = .ok (.str x) st := by
 match r, h with
 | [], _ => exact aia
 | [a], _ => exact aib
 | [a, b], _ => exact aic
 | [a, b, c], _ => exact aid
 | a :: b :: c :: d :: e, h => simp at h
abbrev LEN : List (Str × D) := [(Str.ofString "number", .int 2), (Str.ofString "unknown", .int 2), (Str.ofString "weigh", .int 3), (Str.ofString "plus", .int 2), (Str.ofString "call", .int 3), (Str.ofString "read", .int 3), (Str.ofString "put", .int 4)]
abbrev DED : List (Str × Nat) := [(Str.ofString "number", 8), (Str.ofString "unknown", 9), (Str.ofString "weigh", 10), (Str.ofString "plus", 11), (Str.ofString "call", 12), (Str.ofString "read", 13), (Str.ofString "put", 14)]
abbrev WRD : List Str := [Str.ofString "number", Str.ofString "unknown", Str.ofString "weigh", Str.ofString "plus", Str.ofString "call", Str.ofString "read", Str.ofString "put"]
theorem Lf {a b : Nat} (h : a = b) : (!decide ((a : Int) = (b : Int))) = false := by subst h; simp
theorem aie (hw : C FF (n + 1) 4 [t] st = .ok .non st) : Xr (Ex st) (C FF (n + 2) 6 [.loc NL, t, .int room] st) := by
 refine Ct [some (.loc NL), some t, some (.int room), none, none] (b := Eu) rfl rfl (by decide) rfl ?_
 unfold Eu
 refine Dm (ba (av (Aa (w_var rfl (af (Bi hw ⟨odt rfl, _, rfl, Bz (Ez (Cd (ax (w_var rfl (Ac (Gb ⟨_, rfl, ?_⟩))))))⟩))))))
 exact ⟨fun _ => bx (dn (.refl _)), fun _ => Cd (aan (w_var rfl ⟨rfl, bx (bx (dn (.refl _)))⟩))⟩
theorem nr (h3 : r.length ≤ 3) (h : room < 1 ∨ decide (x ∈ WRD) = false ∨ ∃ v : Int, LEN.lookup x = some (.int v) ∧ decide ((r.length + 1 : Nat) = v) = false) : Xr (Ex st) (C FF (n + 2) 6 [.loc NL, .tup (.str x :: r), .int room] st) := by
 refine Ct [some (.loc NL), some (.tup (.str x :: r)), some (.int room), none, none] (b := Eu) rfl rfl (by decide) rfl ?_
 unfold Eu
 refine Dm (ba (av (Aa (w_var rfl (af (Bi (Nq h3) ⟨odt rfl, _, rfl, Bz (Ez (Cd (ax (w_var rfl (Ac (Gb ⟨_, rfl, ?_⟩))))))⟩))))))
 refine ⟨fun _ => bx (dn (.refl _)), fun hr => Cd (Mr (w_var rfl ⟨x, rfl, ?_⟩))⟩
 have hr := of_decide_eq_false hr
 cases hin : decide (x ∈ WRD) with
 | false => exact bx (bx (dn (.refl _)))
 | true =>
  refine Bg (ax (cw (Aa (w_var rfl (af (Ds ?_))))))
  rcases h with h | h | ⟨v, hv, h⟩
  · exact absurd h hr
  · rw [hin] at h; cases h
  · refine mr (w_var rfl ⟨x, _, rfl, hv, gb ⟨_, rfl, ?_⟩⟩)
    rw [show decide (((D.str x :: r).length : Int) = v) = false from h]
    exact bx (dn (.refl _))
theorem fb (hin : decide (x ∈ WRD) = true) (hv : LEN.lookup x = some (.int (l + 1 : Nat))) (hf : DED.lookup x = some i) (hl : r.length = l) (h3 : r.length ≤ 3) (hc : ([8, 9, 10, 11, 12, 13, 14] : List Nat).contains i = true) (hr : 1 ≤ room)
    (h : Wr (C FF (n + 1) i [.loc NL, .tup (.str x :: r), .int (room - 1)] (st ++ [.fnc i])) Q) : Wr (C FF (n + 2) 6 [.loc NL, .tup (.str x :: r), .int room] st) Q := by
  refine Bn [some (.loc NL), some (.tup (.str x :: r)), some (.int room), none, none] (b := Eu) rfl rfl (by decide) rfl ?_
  unfold Eu
  refine Af (ba (av (Aa (w_var rfl (af (Bi (Nq h3) ⟨odt rfl, Ah (Af (Ba ?_))⟩))))))
  refine Cd (ax (w_var rfl (Ac (Gb ⟨_, rfl, ?_⟩))))
  rw [decide_eq_false (by omega : ¬ room < 1)]
  refine Bg (Cd (Mr (w_var rfl ⟨x, rfl, ?_⟩)))
  rw [show decide (x ∈ [Str.ofString "number", Str.ofString "unknown", Str.ofString "weigh", Str.ofString "plus", Str.ofString "call", Str.ofString "read", Str.ofString "put"]) = true from hin]
  refine Bg (ax (cw (Aa (w_var rfl (af (Ds (mr (w_var rfl ⟨x, _, rfl, hv, gb ⟨_, rfl, ?_⟩⟩))))))))
  rw [Lf (by simp [hl])]
  refine Bg (Ap (Ah (Af (ba (Ra (w_var rfl ⟨x, i, rfl, hf, odt rfl, Ah (Af (Ay (aao (w_var rfl ⟨_, i, rfl, by simp, hc, ?_⟩))))⟩))))))
  refine Aa (w_var rfl (Aa (w_var rfl (Aa (ai (w_var rfl (Ac (cg (af ?_)))))))))
  exact h.imp fun d s q => q
theorem Tc (hin : decide (x ∈ WRD) = true) (hv : LEN.lookup x = some (.int (l + 1 : Nat))) (hf : DED.lookup x = some i) (hl : r.length = l) (h3 : r.length ≤ 3) (hc : ([8, 9, 10, 11, 12, 13, 14] : List Nat).contains i = true)
    (h : 1 ≤ room → Xr (Ex (st ++ [.fnc i])) (C FF (n + 1) i [.loc NL, .tup (.str x :: r), .int (room - 1)] (st ++ [.fnc i]))) : Xr (Ex st) (C FF (n + 2) 6 [.loc NL, .tup (.str x :: r), .int room] st) := by
  by_cases hr : room < 1
  · exact nr h3 (.inl hr)
  refine Ct [some (.loc NL), some (.tup (.str x :: r)), some (.int room), none, none] (b := Eu) rfl rfl (by decide) rfl ?_
  unfold Eu
  refine Dm (ba (av (Aa (w_var rfl (af (Bi (Nq h3) ⟨odt rfl, _, rfl, Dm (Ba ?_)⟩))))))
  refine Cd (ax (w_var rfl (Ac (Gb ⟨_, rfl, ?_⟩))))
  rw [decide_eq_false hr]
  refine Bg (Cd (Mr (w_var rfl ⟨x, rfl, ?_⟩)))
  rw [show decide (x ∈ [Str.ofString "number", Str.ofString "unknown", Str.ofString "weigh", Str.ofString "plus", Str.ofString "call", Str.ofString "read", Str.ofString "put"]) = true from hin]
  refine Bg (ax (cw (Aa (w_var rfl (af (Ds (mr (w_var rfl ⟨x, _, rfl, hv, gb ⟨_, rfl, ?_⟩⟩))))))))
  rw [Lf (by simp [hl])]
  refine Bg (Ap ⟨_, rfl, Dm (ba (Ra (w_var rfl ⟨x, i, rfl, hf, odt rfl, _, rfl, Bz (Sz (ahw (w_var rfl ⟨_, i, rfl, by simp, hc, ?_⟩)))⟩)))⟩)
  refine Aa (w_var rfl (Aa (w_var rfl (Aa (ai (w_var rfl (Ac (cg (af ?_)))))))))
  exact (h (by omega)).imp fun s e => Ex.one.trans e
end
section
variable {FF n : Nat} {st : Sto}
theorem Nr {a b : Int} (h : 0 ≤ b) : a.fmod b = a % b := Int.fmod_eq_emod_of_nonneg a h
theorem fm0 {a b : Int} (h : 0 < b) : 0 ≤ a.fmod b := by rw [Nr (by omega)]; exact Int.emod_nonneg _ (by omega)
theorem fm1 {a b : Int} (h : 0 < b) : a.fmod b < b := by rw [Nr (by omega)]; exact Int.emod_lt_of_pos _ h
theorem whole : C FF (n + 1) 1 [.int i] st = .ok (.bl true) st := by kernel_rfl
theorem cdiv {p q : Int} (h : q = 1 ∨ q = 2 ∧ p % 2 = 1 ∨ q = 3 ∧ p % 3 ≠ 0) : Wr (C (FF + 5) (n + 1) 3 [.int p, .int q] st) fun d s => d = .int 1 ∧ s = st := by
 refine Bn [some (.int p), some (.int q)] (b := kl) rfl rfl (by decide) rfl ?_
 unfold kl
 refine Af (Qx (cw (Aa (w_var rfl (af (qz (cw (Aa (w_var rfl (af (qz ⟨⟨odt rfl, odt rfl⟩, Ah (Af ?_)⟩)))))))))))
 have hq : (if q < 0 then -q else q) = q := by rcases h with rfl | ⟨rfl, _⟩ | ⟨rfl, _⟩ <;> rfl
 rw [hq]
 obtain ⟨a, ea, a0, a2, a3⟩ : ∃ a, (if p < 0 then -p else p) = a ∧ 0 ≤ a ∧ (p % 2 = 1 → a % 2 = 1) ∧ (p % 3 ≠ 0 → a % 3 ≠ 0) := ⟨_, rfl, by split <;> omega, by split <;> omega, by split <;> omega⟩
 rw [ea]
 refine aam (fun m env s => s = st ∧ ∃ a b, env = [some (.int a), some (.int b)] ∧ 0 ≤ a ∧ (m = 0 ∧ a = 1 ∧ b = 0 ∨ m = 1 ∧ b = 1 ∨ m = 2 ∧ b = 2 ∧ a % 2 = 1 ∨ m = 3 ∧ b = 3 ∧ a % 3 ≠ 0)) q.toNat (by omega) ⟨rfl, a, q, rfl, a0, ?_⟩ ?_
 · rcases h with rfl | ⟨rfl, h⟩ | ⟨rfl, h⟩
   · exact .inr (.inl ⟨rfl, rfl⟩)
   · exact .inr (.inr (.inl ⟨rfl, rfl, a2 h⟩))
   · exact .inr (.inr (.inr ⟨rfl, rfl, a3 h⟩))
 rintro m env s ⟨rfl, a, b, rfl, a0, hz⟩
 refine ax (w_var rfl (Ac (gb ⟨_, rfl, fun g => ?_, fun g => ?_⟩)))
 · have hb : b ≠ 0 := by simpa using g
   have hb0 : 0 ≤ b := by omega
   refine Af (Qx (w_var rfl (ai (w_var rfl (w_var rfl (bj hb ⟨⟨odt rfl, odt rfl⟩, Ah (Ap ⟨_, (a % b).toNat, rfl, ?_, rfl, b, a.fmod b, rfl, hb0, ?_⟩)⟩))))))
   · rcases hz with hz | ⟨rfl, rfl⟩ | ⟨rfl, rfl, hz⟩ | ⟨rfl, rfl, hz⟩ <;> omega
   · rw [Nr hb0]
     rcases hz with hz | ⟨rfl, rfl⟩ | ⟨rfl, rfl, hz⟩ | ⟨rfl, rfl, hz⟩ <;> omega
 · have hb : b = 0 := by simpa using g
   have : a = 1 := by omega
   subst this
   exact Ah (Af (Ay (w_var rfl ⟨rfl, rfl⟩)))
def jm (p q : Int) : Prop := q = 1 ∨ q = 2 ∧ p % 2 = 1 ∨ q = 3 ∧ p % 3 ≠ 0
theorem lg (h : jm p q) : C (FF + 5) (n + 2) 2 [.tup [.int p, .int q]] st = .ok (.bl true) st := by
 have : Wr (C (FF + 5) (n + 2) 2 [.tup [.int p, .int q]] st) fun d s => d = .bl true ∧ s = st := by
  refine Bn [some (.tup [.int p, .int q]), none, none] (b := Kk) rfl rfl (by decide) rfl ?_
  unfold Kk
  refine Af (Ba (Cd (Ce (dk (w_var rfl ⟨.b "tuple", true, rfl, rfl, Bg (ax (cw (Aa (w_var rfl (af (Ds (Ac (gb ⟨_, rfl, Bg ?_⟩))))))))⟩)))))
  refine Ap (Ah (Af (Cf (w_var rfl ⟨_, rfl, Ah (Af (Ba (Cd (Ce (El (Aa (w_var rfl (af (Bi whole ⟨true, rfl, Bg (Ce (El (Aa (w_var rfl (af (Bi whole ⟨true, rfl, Bg ?_⟩))))))⟩)))))))))⟩))))
  refine Ap (Ah (Af (Ay (w_and (kh (w_var rfl (Ac (Qy ⟨_, rfl, ?_⟩))))))))
  rw [decide_eq_true (by rcases h with rfl | ⟨rfl, _⟩ | ⟨rfl, _⟩ <;> decide : (1 : Int) ≤ q)]
  refine bx (kh (av (Aa (w_var rfl (Aa (w_var rfl (af ((cdiv h).imp ?_))))))))
  rintro d s ⟨rfl, rfl⟩
  exact Ac (Cn ⟨rfl, rfl⟩)
 obtain ⟨d, s, e, rfl, rfl⟩ := this
 exact e
theorem Td (g : st[m]? = some (.dct kvs)) (hk : Dq k = true) (h : Q ((bp kvs k).getD .non) st) : Wr (mtD .get (.loc m) [k] st) Q := ⟨_, _, by simp only [mtD, Cc, g]; rw [if_pos hk], h⟩
theorem Te (H : Has st) : Wr (C FF (n + 1) 32 [.loc NL, .str x] st) fun d s => d = (bp UNK (.str x)).getD .non ∧ s = st := by
 refine Bn [some (.loc NL), some (.str x)] (b := Il) rfl rfl (by decide) rfl ?_
 unfold Il
 refine Af (Ay (Kh (dk (w_var rfl ⟨.b "str", true, rfl, rfl, bx ?_⟩))))
 refine Mp (w_fld (w_var rfl ⟨NL, FLD, .loc UL, rfl, H.i, aho, ra H.u, Aa (w_var rfl (af ?_))⟩))
 exact Td H.u rfl ⟨rfl, rfl⟩
theorem Nt (H : Has st) : Wr (C FF (n + 1) 34 [.loc NL, .str x] st) fun d s => d = (bp DEE (.str x)).getD .non ∧ s = st := by
 refine Bn [some (.loc NL), some (.str x)] (b := Im) rfl rfl (by decide) rfl ?_
 unfold Im
 refine Af (Ay (Kh (dk (w_var rfl ⟨.b "str", true, rfl, rfl, bx ?_⟩))))
 refine Mp (w_fld (w_var rfl ⟨NL, FLD, .loc DL, rfl, H.i, ahp, ra H.d, Aa (w_var rfl (af ?_))⟩))
 exact Td H.d rfl ⟨rfl, rfl⟩
theorem tf (ht : Cy st d = some u) (hs : Dw tab u (.b "str") = some false) : Wr (C FF (n + 1) 32 [.loc NL, d] st) fun d s => d = .non ∧ s = st := by
 refine Bn [some (.loc NL), some d] (b := Il) rfl rfl (by decide) rfl ?_
 unfold Il
 exact Af (Ay (Kh (dk (w_var rfl ⟨u, false, ht, hs, Bg (Ac ⟨rfl, rfl⟩)⟩))))
theorem aif (ht : Cy st d = some u) (hs : Dw tab u (.b "str") = some false) : Wr (C FF (n + 1) 34 [.loc NL, d] st) fun d s => d = .non ∧ s = st := by
 refine Bn [some (.loc NL), some d] (b := Im) rfl rfl (by decide) rfl ?_
 unfold Im
 exact Af (Ay (Kh (dk (w_var rfl ⟨u, false, ht, hs, Bg (Ac ⟨rfl, rfl⟩)⟩))))
end
section
variable {FF n : Nat} {st : Sto}
inductive Kd | num | thing | array
def kd : Kd → D | .num => W "num" | .thing => W "thing" | .array => W "array"
theorem Ec (b : Kd) : okN 40 (kd b) = true := by cases b <;> decide +kernel
theorem aih (h : a ≠ b) : decide (kd a = kd b) = false := by cases a <;> cases b <;> first | exact absurd rfl h | decide +kernel
abbrev Kw (FF n : Nat) (b : Kd) (t : D) (room : Int) : Prop := ∀ st, Has st → Wr (C FF n 6 [.loc NL, t, .int room] st) fun d s => d = kd b ∧ Ex st s
abbrev Kx (FF n : Nat) (s0 : Sto) (t : D) (room : Int) : Prop := ∀ st, Has st → Ex s0 st → Xr (Ex st) (C FF n 6 [.loc NL, t, .int room] st)
theorem aii {ts ks : List D} {room : Int} (hl : ts.length = ks.length) (hok : ∀ k ∈ ks, okN 40 k = true) (h : ∀ (i : Nat) (t k : D), ts[i]? = some t → ks[i]? = some k → ∀ s, Has s → Wr (C FF n 6 [.loc NL, t, .int room] s) fun d s' => d = k ∧ Ex s s') (H : Has st) :
    Wr (C FF (n + 1) 7 [.loc NL, .tup ts, .tup ks, .int room] st) fun d s => d = .non ∧ Ex st s := by
  refine Bn [some (.loc NL), some (.tup ts), some (.tup ks), some (.int room), none, none] (b := Ew) rfl rfl (by decide) rfl ?_
  unfold Ew
  refine Af (Ba (Cd (Ce (dk (w_var rfl ⟨.b "tuple", true, rfl, rfl, Bg ?_⟩)))))
  refine ax (cw (Aa (w_var rfl (af (Ds (cw (Aa (w_var rfl (af (Ds (gb ⟨_, rfl, ?_⟩)))))))))))
  rw [Lf hl]
  refine Bg (Ap (Ah (Af ?_)))
  refine aap (Aa (w_var rfl (Aa (w_var rfl (af ⟨ts, ks, rfl, Nat.le_of_eq hl, ?_⟩)))))
  refine w_walk (fun i env s => (∃ a b, env = [some (.loc NL), some (.tup ts), some (.tup ks), some (.int room), a, b]) ∧ Has s ∧ Ex st s) (fun _ _ _ _ => rfl) _ 0 _ _ ⟨⟨_, _, rfl⟩, H, .refl _⟩ (fun j d hd env s hj => ?_) (fun env s hj => ?_)
  · obtain ⟨⟨a, b, rfl⟩, H1, E1⟩ := hj
    simp only [fe, List.getElem?_zipWith] at hd
    cases ht : ts[j]? with
    | none => rw [ht] at hd; simp at hd
    | some t =>
      cases hk : ks[j]? with
      | none => rw [ht, hk] at hd; simp at hd
      | some k =>
        rw [ht, hk] at hd
        simp at hd
        subst hd
        refine rb (env' := [some (.loc NL), some (.tup ts), some (.tup ks), some (.int room), some t, some k]) rfl ?_
        refine Af (Ba (ax (av (Aa (w_var rfl (Aa (w_var rfl (Aa (w_var rfl (af ?_))))))))))
        refine (h j t k ht hk s H1).imp ?_
        rintro d s2 ⟨rfl, E2⟩
        refine w_var rfl (Gv (hok _ (List.mem_of_getElem? hk)) (hok _ (List.mem_of_getElem? hk)) ⟨_, rfl, ?_⟩)
        rw [decide_eq_true rfl]
        exact Bg (Ap (Ah (Ap ⟨_, rfl, ⟨_, _, rfl⟩, H1.ex E2, E1.trans E2⟩)))
  · obtain ⟨⟨a, b, rfl⟩, H1, E1⟩ := hj
    exact Ah (Ap ⟨rfl, E1⟩)
inductive Off (FF n : Nat) (s0 : Sto) (room : Int) : List D → List Kd → Prop
 | bad {t : D} {k : Kd} {ts : List D} {ks : List Kd} : Kx FF n s0 t room → Off FF n s0 room (t :: ts) (k :: ks)
 | other {t : D} {j k : Kd} {ts : List D} {ks : List Kd} : Kw FF n j t room → j ≠ k → Off FF n s0 room (t :: ts) (k :: ks)
 | next {t : D} {k : Kd} {ts : List D} {ks : List Kd} : Kw FF n k t room → Off FF n s0 room ts ks → Off FF n s0 room (t :: ts) (k :: ks)
theorem aij {s0 : Sto} {room : Int} {X Y : D} {ts : List D} {ks : List Kd} (h : Off FF n s0 room ts ks) : ∀ (a b : Option D) (s : Sto), Has s → Ex s0 s → Xr (Ex s) (By (fun _ => true) (gw tab (C FF n) FF [4] true [5] true (.cons (.ifS (.cm .ne (.call 6 (.cons (.var 0) (.cons (.var 4) (.cons (.var 3) .nil))) []) (.var 5)) (.cons (.raiseS 2) .nil) .nil) .nil)) (fe ts (ks.map kd)) [some (.loc NL), some X, some Y, some (.int room), a, b] s) := by
 induction h with
 | @bad t k ts ks h =>
  intro a b s H E
  refine Tb (Ta (env' := [some (.loc NL), some X, some Y, some (.int room), some t, some (kd k)]) rfl ?_)
  exact Bz (ahv (ahx (gj (Aa (w_var rfl (Aa (w_var rfl (Aa (w_var rfl (af (h s H E)))))))))))
 | @other t j k ts ks h hk =>
  intro a b s H E
  refine Tb (Ta (env' := [some (.loc NL), some X, some Y, some (.int room), some t, some (kd k)]) rfl ?_)
  refine Bz (Ez (ax (av (Aa (w_var rfl (Aa (w_var rfl (Aa (w_var rfl (af ((h s H).imp ?_)))))))))))
  rintro d s2 ⟨rfl, E2⟩
  refine w_var rfl (Gv (Ec _) (Ec _) ⟨_, rfl, ?_⟩)
  rw [aih hk]
  exact bx (dn E2)
 | @next t k ts ks h _ ih =>
  intro a b s H E
  refine ahz (rb (env' := [some (.loc NL), some X, some Y, some (.int room), some t, some (kd k)]) rfl ?_)
  refine Af (Ba (ax (av (Aa (w_var rfl (Aa (w_var rfl (Aa (w_var rfl (af ((h s H).imp ?_)))))))))))
  rintro d s2 ⟨rfl, E2⟩
  refine w_var rfl (Gv (Ec _) (Ec _) ⟨_, rfl, ?_⟩)
  rw [decide_eq_true rfl]
  exact Bg (Ap (Ah (Ap ⟨_, rfl, (ih _ _ s2 (H.ex E2) (E.trans E2)).imp fun s3 E3 => E2.trans E3⟩)))
theorem aik {s0 : Sto} {room : Int} {ts : List D} {ks : List Kd} (hl : ts.length = ks.length) (h : Off FF n s0 room ts ks) (H : Has st) (E : Ex s0 st) : Xr (Ex st) (C FF (n + 1) 7 [.loc NL, .tup ts, .tup (ks.map kd), .int room] st) := by
 refine Ct [some (.loc NL), some (.tup ts), some (.tup (ks.map kd)), some (.int room), none, none] (b := Ew) rfl rfl (by decide) rfl ?_
 unfold Ew
 refine Dm (Ba (Cd (Ce (dk (w_var rfl ⟨.b "tuple", true, rfl, rfl, Bg ?_⟩)))))
 refine ax (cw (Aa (w_var rfl (af (Ds (cw (Aa (w_var rfl (af (Ds (gb ⟨_, rfl, ?_⟩)))))))))))
 rw [Lf (by rw [List.length_map]; exact hl)]
 refine Bg (Ap ⟨_, rfl, Bz (ahy (Aa (w_var rfl (Aa (w_var rfl (af ⟨ts, ks.map kd, rfl, by rw [List.length_map]; omega, ?_⟩))))))⟩)
 exact aij h _ _ st H E
theorem ail (hl : ts.length ≠ ks.length) : Xr (Ex st) (C FF (n + 1) 7 [.loc NL, .tup ts, .tup ks, .int room] st) := by
 refine Ct [some (.loc NL), some (.tup ts), some (.tup ks), some (.int room), none, none] (b := Ew) rfl rfl (by decide) rfl ?_
 unfold Ew
 refine Bz (Ez (Cd (Ce (dk (w_var rfl ⟨.b "tuple", true, rfl, rfl, Bg ?_⟩)))))
 refine ax (cw (Aa (w_var rfl (af (Ds (cw (Aa (w_var rfl (af (Ds (gb ⟨_, rfl, ?_⟩)))))))))))
 rw [decide_eq_false (by omega)]
 exact bx (dn (.refl _))
theorem aim (ht : Cy st d = some u) (hs : Dw tab u (.b "tuple") = some false) : Xr (Ex st) (C FF (n + 1) 7 [.loc NL, d, .tup ks, .int room] st) := by
 refine Ct [some (.loc NL), some d, some (.tup ks), some (.int room), none, none] (b := Ew) rfl rfl (by decide) rfl ?_
 unfold Ew
 exact Bz (Ez (Cd (Ce (dk (w_var rfl ⟨u, false, ht, hs, Jg (bx (dn (.refl _)))⟩)))))
end
section
variable {FF n : Nat} {st : Sto}
inductive Al (FF n : Nat) (room : Int) : List D → List Kd → Prop
 | nil : Al FF n room [] []
 | cons {t : D} {k : Kd} {ts : List D} {ks : List Kd} : Kw FF n k t room → Al FF n room ts ks → Al FF n room (t :: ts) (k :: ks)
theorem Al.len (h : Al FF n room ts ks) : ts.length = ks.length := by induction h <;> simp_all
theorem Al.get (h : Al FF n room ts ks) : ∀ (i : Nat) (t k : D), ts[i]? = some t → (ks.map kd)[i]? = some k → ∀ s, Has s → Wr (C FF n 6 [.loc NL, t, .int room] s) fun d s' => d = k ∧ Ex s s' := by
 induction h with
 | nil => intro i t k h; simp at h
 | cons h _ ih =>
  intro i t k h1 h2
  cases i with
  | zero => simp at h1 h2; subst h1 h2; exact h
  | succ i => exact ih i t k (by simpa using h1) (by simpa using h2)
theorem cks (h : Al FF n room ts ks) (H : Has st) : Wr (C FF (n + 1) 7 [.loc NL, .tup ts, .tup (ks.map kd), .int room] st) fun d s => d = .non ∧ Ex st s :=
 aii (by rw [List.length_map]; exact h.len) (fun k hk => by obtain ⟨a, _, rfl⟩ := List.mem_map.mp hk; exact Ec a) h.get H
inductive Ask (FF n : Nat) (s0 : Sto) (room : Int) : D → List Kd → Prop
 | off {ts : List D} {ks : List Kd} : ts.length = ks.length → Off FF n s0 room ts ks → Ask FF n s0 room (.tup ts) ks
 | len {ts : List D} {ks : List Kd} : ts.length ≠ ks.length → Ask FF n s0 room (.tup ts) ks
 | lst {l : Nat} {xs : List D} {ks : List Kd} : s0[l]? = some (.lst xs) → Ask FF n s0 room (.loc l) ks
theorem ckx {s0 : Sto} {room : Int} {d : D} {ks : List Kd} (h : Ask FF n s0 room d ks) (H : Has st) (E : Ex s0 st) : Xr (Ex st) (C FF (n + 1) 7 [.loc NL, d, .tup (ks.map kd), .int room] st) := by
 cases h with
 | off hl h => exact aik hl h H E
 | len hl => exact ail (by rw [List.length_map]; exact hl)
 | lst hl => exact aim (Ki (Dc (E.at hl))) rfl
theorem ain (hf : ∀ s, C FF n 2 [f] s = .ok (.bl true) s) : Wr (C FF (n + 1) 8 [.loc NL, .tup [W "number", f], .int room] st) fun d s => d = kd .num ∧ Ex st s := by
 refine Bn [some (.loc NL), some (.tup [W "number", f]), some (.int room)] (b := Ij) rfl rfl (by decide) rfl ?_
 unfold Ij
 refine Af (Ba (Ce (El (Aa (bq (w_var rfl (Ac (Cg (d := f) rfl (af (Bi (hf st) ⟨true, rfl, Bg ?_⟩))))))))))
 exact Ap (Ah (Af (Ay (Ac ⟨rfl, .refl _⟩))))
theorem aio (hf : C FF n 2 [f] st = .ok (.bl false) st) : Xr (Ex st) (C FF (n + 1) 8 [.loc NL, .tup [W "number", f], .int room] st) := by
 refine Ct [some (.loc NL), some (.tup [W "number", f]), some (.int room)] (b := Ij) rfl rfl (by decide) rfl ?_
 unfold Ij
 exact Bz (Ez (Ce (El (Aa (bq (w_var rfl (Ac (Cg (d := f) rfl (af (Bi hf ⟨false, rfl, Jg (dn (.refl _))⟩))))))))))
theorem aip (H : Has st) (h : bp UNK (.str x) = some (kd b)) : Wr (C FF (n + 2) 9 [.loc NL, .tup [W "unknown", .str x], .int room] st) fun d s => d = kd b ∧ Ex st s := by
 refine Bn [some (.loc NL), some (.tup [W "unknown", .str x]), some (.int room), none] (b := ik) rfl rfl (by decide) rfl ?_
 unfold ik
 refine Af (ba (jf (w_var rfl ⟨NL, FLD, rfl, H.i, Sy, Aa (bq (w_var rfl (Ac (Cg (d := .str x) rfl (af ((Te H).imp ?_))))))⟩)))
 rintro d s ⟨rfl, rfl⟩
 rw [h]
 refine ⟨odt rfl, Ah (Af (Ba (ax (w_var rfl (Ac (Jh ⟨_, rfl, ?_⟩))))))⟩
 have hn : decide (((some (kd b)).getD .non) = .non) = false := by cases b <;> decide +kernel
 rw [hn]
 exact Bg (Ap (Ah (Af (Ay (w_var rfl ⟨rfl, .refl _⟩)))))
theorem aiq (H : Has st) (h : Wr (C FF (n + 1) 32 [.loc NL, y] st) fun d s => d = .non ∧ s = st) : Xr (Ex st) (C FF (n + 2) 9 [.loc NL, .tup [W "unknown", y], .int room] st) := by
 refine Ct [some (.loc NL), some (.tup [W "unknown", y]), some (.int room), none] (b := ik) rfl rfl (by decide) rfl ?_
 unfold ik
 refine Dm (ba (jf (w_var rfl ⟨NL, FLD, rfl, H.i, Sy, Aa (bq (w_var rfl (Ac (Cg (d := y) rfl (af (h.imp ?_))))))⟩)))
 rintro d s ⟨rfl, rfl⟩
 exact ⟨odt rfl, _, rfl, Bz (Ez (ax (w_var rfl (Ac (Jh ⟨_, rfl, bx (dn (.refl _))⟩)))))⟩
theorem air (H : Has st) (hf : ∀ s, C FF (n + 1) 2 [f] s = .ok (.bl true) s) (ht : Kw FF n .num t room) : Wr (C FF (n + 2) 10 [.loc NL, .tup [W "weigh", f, t], .int room] st) fun d s => d = kd .num ∧ Ex st s := by
 refine Bn [some (.loc NL), some (.tup [W "weigh", f, t]), some (.int room)] (b := gh) rfl rfl (by decide) rfl ?_
 unfold gh
 refine Af (Ba (Ce (El (Aa (bq (w_var rfl (Ac (Cg (d := f) rfl (af (Bi (hf st) ⟨true, rfl, Bg ?_⟩))))))))))
 refine Ap (Ah (Af (ig (av (Aa (w_var rfl (Aa (gv (w_var rfl (Fz (Ac ⟨2, rfl, Gu (Ih rfl (Aa (ao (Aa (Ac (af ⟨odt rfl, Aa (w_var rfl (af ?_))⟩))))))⟩)))))))))))
 refine (cks (ts := [t]) (ks := [.num]) (.cons ht .nil) H).imp ?_
 rintro d s ⟨rfl, E⟩
 exact Ah (Af (Ay (Ac ⟨rfl, E⟩)))
theorem ais (hf : C FF n 2 [f] st = .ok (.bl false) st) : Xr (Ex st) (C FF (n + 1) 10 [.loc NL, .tup [W "weigh", f, t], .int room] st) := by
 refine Ct [some (.loc NL), some (.tup [W "weigh", f, t]), some (.int room)] (b := gh) rfl rfl (by decide) rfl ?_
 unfold gh
 exact Bz (Ez (Ce (El (Aa (bq (w_var rfl (Ac (Cg (d := f) rfl (af (Bi hf ⟨false, rfl, Jg (dn (.refl _))⟩))))))))))
theorem Tf (H : Has st) (E : Ex s0 st) (hf : C FF (n + 1) 2 [f] st = .ok (.bl true) st) (ht : Off FF n s0 room [t] [.num]) : Xr (Ex st) (C FF (n + 2) 10 [.loc NL, .tup [W "weigh", f, t], .int room] st) := by
 refine Ct [some (.loc NL), some (.tup [W "weigh", f, t]), some (.int room)] (b := gh) rfl rfl (by decide) rfl ?_
 unfold gh
 refine Dm (Ba (Ce (El (Aa (bq (w_var rfl (Ac (Cg (d := f) rfl (af (Bi hf ⟨true, rfl, Bg (Ap ⟨_, rfl, ?_⟩)⟩))))))))))
 refine Bz (Iw (gj (Aa (w_var rfl (Aa (gv (w_var rfl (Fz (Ac ⟨2, rfl, Gu (Ih rfl (Aa (ao (Aa (Ac (af ⟨odt rfl, Aa (w_var rfl (af ?_))⟩))))))⟩)))))))))
 exact ckx (ks := [.num]) (.off rfl ht) H E
theorem Tg {m : Nat} (h : m ≤ 3) : opD .mul (.tup [W "num"]) (.int m) st = .ok (.tup ((List.replicate m Kd.num).map kd)) st := by
 match m, h with
 | 0, _ => kernel_rfl
 | 1, _ => kernel_rfl
 | 2, _ => kernel_rfl
 | 3, _ => kernel_rfl
theorem ait {ts : List D} {room : Int} (H : Has st) (hl : ts.length ≤ 3) (h : Al FF n room ts (List.replicate ts.length .num)) : Wr (C FF (n + 2) 11 [.loc NL, .tup [W "plus", .tup ts], .int room] st) fun d s => d = kd .num ∧ Ex st s := by
 refine Bn [some (.loc NL), some (.tup [W "plus", .tup ts]), some (.int room)] (b := Gh) rfl rfl (by decide) rfl ?_
 unfold Gh
 refine Af (Ba (Ce (dk (bq (w_var rfl (Ac (Cg (d := .tup ts) rfl ⟨.b "tuple", true, rfl, rfl, Bg ?_⟩)))))))
 refine Ap (Ah (Af (ig (av (Aa (w_var rfl (Aa (bq (w_var rfl (Ac (Cg (d := .tup ts) rfl ?_)))))))))))
 refine Aa (ai (ao (Aa (Ac (af ⟨odt rfl, cw (Aa (bq (w_var rfl (Ac (Cg (d := .tup ts) rfl (af (Ds (Bi (Tg hl) (Aa (w_var rfl (af ?_)))))))))))⟩)))))
 refine (cks h H).imp ?_
 rintro d s ⟨rfl, E⟩
 exact Ah (Af (Ay (Ac ⟨rfl, E⟩)))
theorem Th {s0 : Sto} {ts : List D} {room : Int} (H : Has st) (E : Ex s0 st) (hl : ts.length ≤ 3) (h : Off FF n s0 room ts (List.replicate ts.length .num)) : Xr (Ex st) (C FF (n + 2) 11 [.loc NL, .tup [W "plus", .tup ts], .int room] st) := by
 refine Ct [some (.loc NL), some (.tup [W "plus", .tup ts]), some (.int room)] (b := Gh) rfl rfl (by decide) rfl ?_
 unfold Gh
 refine Dm (Ba (Ce (dk (bq (w_var rfl (Ac (Cg (d := .tup ts) rfl ⟨.b "tuple", true, rfl, rfl, Bg (Ap ⟨_, rfl, ?_⟩)⟩)))))))
 refine Bz (Iw (gj (Aa (w_var rfl (Aa (bq (w_var rfl (Ac (Cg (d := .tup ts) rfl ?_)))))))))
 refine Aa (ai (ao (Aa (Ac (af ⟨odt rfl, cw (Aa (bq (w_var rfl (Ac (Cg (d := .tup ts) rfl (af (Ds (Bi (Tg hl) (Aa (w_var rfl (af ?_)))))))))))⟩)))))
 exact ckx (.off (by simp) h) H E
theorem aiu (h : st[l]? = some (.lst xs)) : Xr (Ex st) (C FF (n + 1) 11 [.loc NL, .tup [W "plus", .loc l], .int room] st) := by
 refine Ct [some (.loc NL), some (.tup [W "plus", .loc l]), some (.int room)] (b := Gh) rfl rfl (by decide) rfl ?_
 unfold Gh
 exact Bz (Ez (Ce (dk (bq (w_var rfl (Ac (Cg (d := .loc l) rfl ⟨.b "list", false, Ki (Dc h), rfl, Jg (dn (.refl _))⟩)))))))
theorem Lg (H : Has st) (hx : bp DEE (.str x) = some (.tup [.tup (ks.map kd), kd k])) (h : Al FF n room ts ks) : Wr (C FF (n + 2) 12 [.loc NL, .tup [W "call", .str x, .tup ts], .int room] st) fun d s => d = kd k ∧ Ex st s := by
 refine Bn [some (.loc NL), some (.tup [W "call", .str x, .tup ts]), some (.int room), none, none, none] (b := gi) rfl rfl (by decide) rfl ?_
 unfold gi
 refine Af (ba (jf (w_var rfl ⟨NL, FLD, rfl, H.i, nq, Aa (bq (w_var rfl (Ac (Cg (d := .str x) rfl (af ((Nt H).imp ?_))))))⟩)))
 rintro d s ⟨rfl, rfl⟩
 rw [hx]
 refine ⟨odt rfl, Ah (Af (Ba (ax (w_var rfl (Ac (Jh ⟨_, rfl, Bg (Ap (Ah (Af ?_)))⟩))))))⟩
 refine Cf (w_var rfl ⟨_, rfl, Ah (Af (ig (av (Aa (w_var rfl (Aa (bq (w_var rfl (Ac (Cg (d := .tup ts) rfl (Aa (w_var rfl (Aa (w_var rfl (af ?_)))))))))))))))⟩)
 refine (cks h H).imp ?_
 rintro d s ⟨rfl, E⟩
 exact Ah (Af (Ay (w_var rfl ⟨rfl, E⟩)))
theorem x_call (H : Has st) (E : Ex s0 st) (hx : bp DEE (.str x) = some (.tup [.tup (ks.map kd), kd k])) (h : Ask FF n s0 room a ks) : Xr (Ex st) (C FF (n + 2) 12 [.loc NL, .tup [W "call", .str x, a], .int room] st) := by
 refine Ct [some (.loc NL), some (.tup [W "call", .str x, a]), some (.int room), none, none, none] (b := gi) rfl rfl (by decide) rfl ?_
 unfold gi
 refine Dm (ba (jf (w_var rfl ⟨NL, FLD, rfl, H.i, nq, Aa (bq (w_var rfl (Ac (Cg (d := .str x) rfl (af ((Nt H).imp ?_))))))⟩)))
 rintro d s ⟨rfl, rfl⟩
 rw [hx]
 refine ⟨odt rfl, _, rfl, Dm (Ba (ax (w_var rfl (Ac (Jh ⟨_, rfl, Bg (Ap ⟨_, rfl, Dm ?_⟩)⟩)))))⟩
 refine Cf (w_var rfl ⟨_, rfl, _, rfl, Bz (Iw (gj (Aa (w_var rfl (Aa (bq (w_var rfl (Ac (Cg (d := a) rfl (Aa (w_var rfl (Aa (w_var rfl (af ?_))))))))))))))⟩)
 exact ckx h H E
theorem aiv (H : Has st) (h : Wr (C FF (n + 1) 34 [.loc NL, y] st) fun d s => d = .non ∧ s = st) : Xr (Ex st) (C FF (n + 2) 12 [.loc NL, .tup [W "call", y, a], .int room] st) := by
 refine Ct [some (.loc NL), some (.tup [W "call", y, a]), some (.int room), none, none, none] (b := gi) rfl rfl (by decide) rfl ?_
 unfold gi
 refine Dm (ba (jf (w_var rfl ⟨NL, FLD, rfl, H.i, nq, Aa (bq (w_var rfl (Ac (Cg (d := y) rfl (af (h.imp ?_))))))⟩)))
 rintro d s ⟨rfl, rfl⟩
 exact ⟨odt rfl, _, rfl, Bz (Ez (ax (w_var rfl (Ac (Jh ⟨_, rfl, bx (dn (.refl _))⟩)))))⟩
theorem aiw (H : Has st) (h : Al FF n room [a, t] [.array, .num]) : Wr (C FF (n + 2) 13 [.loc NL, .tup [W "read", a, t], .int room] st) fun d s => d = kd .num ∧ Ex st s := by
 refine Bn [some (.loc NL), some (.tup [W "read", a, t]), some (.int room)] (b := Ik) rfl rfl (by decide) rfl ?_
 unfold Ik
 refine Af (ig (av (Aa (w_var rfl (Aa (gv (w_var rfl (Fz (Ac ⟨1, rfl, Gu (Ih rfl (Aa (ao (Aa (Ac (Aa (Ac (af ⟨odt rfl, Aa (w_var rfl (af ?_))⟩))))))))⟩)))))))))
 refine (cks h H).imp ?_
 rintro d s ⟨rfl, E⟩
 exact Ah (Af (Ay (Ac ⟨rfl, E⟩)))
theorem Ti (H : Has st) (E : Ex s0 st) (h : Off FF n s0 room [a, t] [.array, .num]) : Xr (Ex st) (C FF (n + 2) 13 [.loc NL, .tup [W "read", a, t], .int room] st) := by
 refine Ct [some (.loc NL), some (.tup [W "read", a, t]), some (.int room)] (b := Ik) rfl rfl (by decide) rfl ?_
 unfold Ik
 refine Bz (Iw (gj (Aa (w_var rfl (Aa (gv (w_var rfl (Fz (Ac ⟨1, rfl, Gu (Ih rfl (Aa (ao (Aa (Ac (Aa (Ac (af ⟨odt rfl, Aa (w_var rfl (af ?_))⟩))))))))⟩)))))))))
 exact ckx (ks := [.array, .num]) (.off rfl h) H E
theorem aix (H : Has st) (h : Al FF n room [a, t, u] [.array, .num, .num]) : Wr (C FF (n + 2) 14 [.loc NL, .tup [W "put", a, t, u], .int room] st) fun d s => d = kd .array ∧ Ex st s := by
 refine Bn [some (.loc NL), some (.tup [W "put", a, t, u]), some (.int room)] (b := il) rfl rfl (by decide) rfl ?_
 unfold il
 refine Af (ig (av (Aa (w_var rfl (Aa (gv (w_var rfl (Fz (Ac ⟨1, rfl, Gu (Ih rfl (Aa (ao (Aa (Ac (Aa (Ac (Aa (Ac (af ⟨odt rfl, Aa (w_var rfl (af ?_))⟩))))))))))⟩)))))))))
 refine (cks h H).imp ?_
 rintro d s ⟨rfl, E⟩
 exact Ah (Af (Ay (Ac ⟨rfl, E⟩)))
theorem aiy (H : Has st) (E : Ex s0 st) (h : Off FF n s0 room [a, t, u] [.array, .num, .num]) : Xr (Ex st) (C FF (n + 2) 14 [.loc NL, .tup [W "put", a, t, u], .int room] st) := by
 refine Ct [some (.loc NL), some (.tup [W "put", a, t, u]), some (.int room)] (b := il) rfl rfl (by decide) rfl ?_
 unfold il
 refine Bz (Iw (gj (Aa (w_var rfl (Aa (gv (w_var rfl (Fz (Ac ⟨1, rfl, Gu (Ih rfl (Aa (ao (Aa (Ac (Aa (Ac (Aa (Ac (af ⟨odt rfl, Aa (w_var rfl (af ?_))⟩))))))))))⟩)))))))))
 exact ckx (ks := [.array, .num, .num]) (.off rfl h) H E
end
section
variable {FF n : Nat} {st : Sto}
inductive Tr : Kd → Nat → D → Prop
 | unk {d : Nat} {k : Kd} {x : Str} : bp UNK (.str x) = some (kd k) → Tr k (d + 1) (.tup [W "unknown", .str x])
 | num {d : Nat} {p q : Int} : jm p q → Tr .num (d + 1) (.tup [W "number", .tup [.int p, .int q]])
 | wei {d : Nat} {p q : Int} {t : D} : jm p q → Tr .num d t → Tr .num (d + 1) (.tup [W "weigh", .tup [.int p, .int q], t])
 | plu {d : Nat} {ts : List D} : ts.length ≤ 3 → (∀ t ∈ ts, Tr .num d t) → Tr .num (d + 1) (.tup [W "plus", .tup ts])
 | calf {d : Nat} {t : D} : Tr .num d t → Tr .num (d + 1) (.tup [W "call", W "f", .tup [t]])
 | calg {d : Nat} {t u : D} : Tr .num d t → Tr .thing d u → Tr .num (d + 1) (.tup [W "call", W "g", .tup [t, u]])
 | calh {d : Nat} {u : D} : Tr .thing d u → Tr .thing (d + 1) (.tup [W "call", W "h", .tup [u]])
 | calp {d : Nat} {u t v : D} : Tr .thing d u → Tr .num d t → Tr .num d v → Tr .thing (d + 1) (.tup [W "call", W "plus", .tup [u, t, v]])
 | rea {d : Nat} {a t : D} : Tr .array d a → Tr .num d t → Tr .num (d + 1) (.tup [W "read", a, t])
 | put {d : Nat} {a t u : D} : Tr .array d a → Tr .num d t → Tr .num d u → Tr .array (d + 1) (.tup [W "put", a, t, u])
theorem tj : ∀ {ts : List D}, (∀ t ∈ ts, Kw FF n .num t room) → Al FF n room ts (List.replicate ts.length .num)
 | [], _ => .nil
 | t :: ts, h => .cons (h t (by simp)) (tj fun u hu => h u (by simp [hu]))
theorem Gj : bp DEE (W "f") = some (.tup [.tup ([Kd.num].map kd), kd .num]) := by decide +kernel
theorem nu : bp DEE (W "g") = some (.tup [.tup ([Kd.num, .thing].map kd), kd .num]) := by decide +kernel
theorem Tj : bp DEE (W "h") = some (.tup [.tup ([Kd.thing].map kd), kd .thing]) := by decide +kernel
theorem aiz : bp DEE (W "plus") = some (.tup [.tup ([Kd.thing, .num, .num].map kd), kd .thing]) := by decide +kernel
theorem kw : ∀ (k : Nat) (b : Kd) (t : D), Tr b k t → ∀ room : Int, (k : Int) ≤ room → Kw (FF + 5) (n + 3 * k + 3) b t room
 | 0, b, t, h, room, hr, st, H => by cases h
 | k + 1, b, t, h, room, hr, st, H => by
  have ih := fun b t h => kw k b t h (room - 1) (by omega)
  have H2 : ∀ {i : Nat}, Has (st ++ [.fnc i]) := fun {i} => H.ex .one
  have up : ∀ {i : Nat} {b : Kd} {r : Res D}, Wr r (fun d s => d = kd b ∧ Ex (st ++ [.fnc i]) s) → Wr r fun d s => d = kd b ∧ Ex st s := fun h => h.imp fun d s q => ⟨q.1, Ex.one.trans q.2⟩
  rw [show n + 3 * (k + 1) + 3 = (n + 3 * k + 4) + 2 by omega]
  cases h with
  | unk hx => exact fb (l := 1) (i := 9) (by decide +kernel) (by decide +kernel) (by decide +kernel) rfl (odt rfl) rfl (by omega) (up (aip H2 hx))
  | num hf => exact fb (l := 1) (i := 8) (by decide +kernel) (by decide +kernel) (by decide +kernel) rfl (odt rfl) rfl (by omega) (up (ain (fun s => lg (n := n + 3 * k + 2) hf)))
  | wei hf ht => exact fb (l := 2) (i := 10) (by decide +kernel) (by decide +kernel) (by decide +kernel) rfl (odt rfl) rfl (by omega) (up (air H2 (fun s => lg (n := n + 3 * k + 2) hf) (ih _ _ ht)))
  | plu hl ht => exact fb (l := 1) (i := 11) (by decide +kernel) (by decide +kernel) (by decide +kernel) rfl (odt rfl) rfl (by omega) (up (ait H2 hl (tj fun t h => ih _ _ (ht t h))))
  | calf ht => exact fb (l := 2) (i := 12) (by decide +kernel) (by decide +kernel) (by decide +kernel) rfl (odt rfl) rfl (by omega) (up (Lg H2 Gj (.cons (ih _ _ ht) .nil)))
  | calg ht hu => exact fb (l := 2) (i := 12) (by decide +kernel) (by decide +kernel) (by decide +kernel) rfl (odt rfl) rfl (by omega) (up (Lg H2 nu (.cons (ih _ _ ht) (.cons (ih _ _ hu) .nil))))
  | calh hu => exact fb (l := 2) (i := 12) (by decide +kernel) (by decide +kernel) (by decide +kernel) rfl (odt rfl) rfl (by omega) (up (Lg H2 Tj (.cons (ih _ _ hu) .nil)))
  | calp hu ht hv => exact fb (l := 2) (i := 12) (by decide +kernel) (by decide +kernel) (by decide +kernel) rfl (odt rfl) rfl (by omega) (up (Lg H2 aiz (.cons (ih _ _ hu) (.cons (ih _ _ ht) (.cons (ih _ _ hv) .nil)))))
  | rea ha ht => exact fb (l := 2) (i := 13) (by decide +kernel) (by decide +kernel) (by decide +kernel) rfl (odt rfl) rfl (by omega) (up (aiw H2 (.cons (ih _ _ ha) (.cons (ih _ _ ht) .nil))))
  | put ha ht hu => exact fb (l := 3) (i := 14) (by decide +kernel) (by decide +kernel) (by decide +kernel) rfl (odt rfl) rfl (by omega) (up (aix H2 (.cons (ih _ _ ha) (.cons (ih _ _ ht) (.cons (ih _ _ hu) .nil)))))
theorem kwN (h : Tr b k t) (hm : 3 * k + 3 ≤ m) (hr : (k : Int) ≤ room) : Kw (FF + 5) m b t room := by
 have := kw (FF := FF) (n := m - (3 * k + 3)) k b t h room hr
 rwa [show m - (3 * k + 3) + 3 * k + 3 = m by omega] at this
end
section
variable {FF n : Nat} {st : Sto} {R : Int}
def B (FF m : Nat) (R : Int) (s0 : Sto) (t : D) : Prop := ∀ (n : Nat) (room : Int), R ≤ room → Kx (FF + 5) (n + m) s0 t room
theorem aja (h : B FF m R s0 t) (hk : m ≤ k) (hR : R ≤ R') : B FF k R' s0 t := fun n room hr st H E => by
 have := h (n + (k - m)) room (by omega) st H E
 rwa [show n + (k - m) + m = n + k by omega] at this
theorem B.ex {m : Nat} {s0 s1 : Sto} {t : D} (h : B FF m R s0 t) (e : Ex s0 s1) : B FF m R s1 t := fun n room hr st H E => h n room hr st H (e.trans E)
theorem Ho (hm : 2 ≤ m) (h : ∀ n st, Ex s0 st → C (FF + 5) (n + 1) 4 [t] st = .ok .non st) : B FF m R s0 t := fun n room _ st H E => by
 have := aie (n := n + m - 2) (room := room) (h (n + m - 2) st E)
 rwa [show n + m - 2 + 2 = n + m by omega] at this
theorem Ed (hm : 2 ≤ m) (h3 : r.length ≤ 3) (h : decide (x ∈ WRD) = false ∨ ∃ v : Int, LEN.lookup x = some (.int v) ∧ decide ((r.length + 1 : Nat) = v) = false) : B FF m R s0 (.tup (.str x :: r)) := fun n room hR st H E => by
 have := nr (FF := FF + 5) (n := n + m - 2) (st := st) (room := room) (x := x) (r := r) h3 (.inr h)
 rwa [show n + m - 2 + 2 = n + m by omega] at this
theorem Fb (hm : 2 ≤ m) (hin : decide (x ∈ WRD) = true) (hv : LEN.lookup x = some (.int (l + 1 : Nat))) (hf : DED.lookup x = some i) (hl : r.length = l) (h3 : r.length ≤ 3) (hc : ([8, 9, 10, 11, 12, 13, 14] : List Nat).contains i = true)
    (h : ∀ (n : Nat) (room : Int) (st : Sto), R ≤ room → 1 ≤ room → Has st → Ex s0 st → Xr (Ex st) (C (FF + 5) (n + m - 1) i [.loc NL, .tup (.str x :: r), .int (room - 1)] st)) : B FF m R s0 (.tup (.str x :: r)) := fun n room hR st H E => by
  have := Tc (FF := FF + 5) (n := n + m - 2) (st := st) (room := room) (x := x) (r := r) hin hv hf hl h3 hc fun hr => by
    have := h n room (st ++ [.fnc i]) hR hr (H.ex .one) (E.trans .one)
    rwa [show n + m - 1 = n + m - 2 + 1 by omega] at this
  rwa [show n + m - 2 + 2 = n + m by omega] at this
theorem lh (hm : 4 ≤ m) (h : ∀ n st, C (FF + 5) (n + 2) 2 [f] st = .ok (.bl false) st) : B FF m R s0 (.tup [W "number", f]) :=
 Fb (l := 1) (i := 8) (by omega) (by decide +kernel) (by decide +kernel) (by decide +kernel) rfl (odt rfl) rfl fun n room st hR hr H E => by
  have := aio (n := n + m - 4 + 2) (room := room - 1) (h (n + m - 4) st)
  rwa [show n + m - 4 + 2 + 1 = n + m - 1 by omega] at this
theorem Lh (hm : 3 ≤ m) (h : ∀ n st, Has st → Ex s0 st → Wr (C (FF + 5) (n + 1) 32 [.loc NL, y] st) fun d s => d = .non ∧ s = st) : B FF m R s0 (.tup [W "unknown", y]) :=
 Fb (l := 1) (i := 9) (by omega) (by decide +kernel) (by decide +kernel) (by decide +kernel) rfl (odt rfl) rfl fun n room st hR hr H E => by
  have := aiq (n := n + m - 3) (room := room - 1) H (h (n + m - 3) st H E)
  rwa [show n + m - 3 + 2 = n + m - 1 by omega] at this
theorem tm (hm : 4 ≤ m) (h : ∀ n st, C (FF + 5) (n + 2) 2 [f] st = .ok (.bl false) st) : B FF m R s0 (.tup [W "weigh", f, t]) :=
 Fb (l := 2) (i := 10) (by omega) (by decide +kernel) (by decide +kernel) (by decide +kernel) rfl (odt rfl) rfl fun n room st hR hr H E => by
  have := ais (t := t) (n := n + m - 4 + 2) (room := room - 1) (h (n + m - 4) st)
  rwa [show n + m - 4 + 2 + 1 = n + m - 1 by omega] at this
theorem Nu (hm : 4 ≤ m) (hf : jm p q) (h : ∀ n (room : Int), R - 1 ≤ room → Off (FF + 5) (n + m - 3) s0 room [t] [.num]) : B FF m R s0 (.tup [W "weigh", .tup [.int p, .int q], t]) :=
 Fb (l := 2) (i := 10) (by omega) (by decide +kernel) (by decide +kernel) (by decide +kernel) rfl (odt rfl) rfl fun n room st hR hr H E => by
  have := Tf (n := n + m - 3) (room := room - 1) (f := .tup [.int p, .int q]) H E (by have := lg (FF := FF) (n := n + m - 4) (st := st) hf; rwa [show n + m - 4 + 2 = n + m - 3 + 1 by omega] at this) (h n (room - 1) (by omega))
  rwa [show n + m - 3 + 2 = n + m - 1 by omega] at this
theorem Jm (hm : 3 ≤ m) (hl : ts.length ≤ 3) (h : ∀ n (room : Int), R - 1 ≤ room → Off (FF + 5) (n + m - 3) s0 room ts (List.replicate ts.length .num)) : B FF m R s0 (.tup [W "plus", .tup ts]) :=
 Fb (l := 1) (i := 11) (by omega) (by decide +kernel) (by decide +kernel) (by decide +kernel) rfl (odt rfl) rfl fun n room st hR hr H E => by
  have := Th (n := n + m - 3) (room := room - 1) H E hl (h n (room - 1) (by omega))
  rwa [show n + m - 3 + 2 = n + m - 1 by omega] at this
theorem ajb {m l : Nat} {xs : List D} {s0 : Sto} (hm : 2 ≤ m) (h : s0[l]? = some (.lst xs)) : B FF m R s0 (.tup [W "plus", .loc l]) :=
 Fb (l := 1) (i := 11) (by omega) (by decide +kernel) (by decide +kernel) (by decide +kernel) rfl (odt rfl) rfl fun n room st hR hr H E => by
  have := aiu (FF := FF + 5) (n := n + m - 2) (room := room - 1) (E.at h)
  rwa [show n + m - 2 + 1 = n + m - 1 by omega] at this
theorem fu (hm : 3 ≤ m) (hx : bp DEE (.str x) = some (.tup [.tup (ks.map kd), kd k])) (h : ∀ n (room : Int), R - 1 ≤ room → Ask (FF + 5) (n + m - 3) s0 room a ks) : B FF m R s0 (.tup [W "call", .str x, a]) :=
 Fb (l := 2) (i := 12) (by omega) (by decide +kernel) (by decide +kernel) (by decide +kernel) rfl (odt rfl) rfl fun n room st hR hr H E => by
  have := x_call (n := n + m - 3) (room := room - 1) H E hx (h n (room - 1) (by omega))
  rwa [show n + m - 3 + 2 = n + m - 1 by omega] at this
theorem nv (hm : 3 ≤ m) (h : ∀ n st, Has st → Wr (C (FF + 5) (n + 1) 34 [.loc NL, y] st) fun d s => d = .non ∧ s = st) : B FF m R s0 (.tup [W "call", y, a]) :=
 Fb (l := 2) (i := 12) (by omega) (by decide +kernel) (by decide +kernel) (by decide +kernel) rfl (odt rfl) rfl fun n room st hR hr H E => by
  have := aiv (a := a) (n := n + m - 3) (room := room - 1) H (h (n + m - 3) st H)
  rwa [show n + m - 3 + 2 = n + m - 1 by omega] at this
theorem jn (hm : 3 ≤ m) (h : ∀ n (room : Int), R - 1 ≤ room → Off (FF + 5) (n + m - 3) s0 room [a, t] [.array, .num]) : B FF m R s0 (.tup [W "read", a, t]) :=
 Fb (l := 2) (i := 13) (by omega) (by decide +kernel) (by decide +kernel) (by decide +kernel) rfl (odt rfl) rfl fun n room st hR hr H E => by
  have := Ti (n := n + m - 3) (room := room - 1) H E (h n (room - 1) (by omega))
  rwa [show n + m - 3 + 2 = n + m - 1 by omega] at this
theorem Jn (hm : 3 ≤ m) (h : ∀ n (room : Int), R - 1 ≤ room → Off (FF + 5) (n + m - 3) s0 room [a, t, u] [.array, .num, .num]) : B FF m R s0 (.tup [W "put", a, t, u]) :=
 Fb (l := 3) (i := 14) (by omega) (by decide +kernel) (by decide +kernel) (by decide +kernel) rfl (odt rfl) rfl fun n room st hR hr H E => by
  have := aiy (n := n + m - 3) (room := room - 1) H E (h n (room - 1) (by omega))
  rwa [show n + m - 3 + 2 = n + m - 1 by omega] at this
end
section
variable {FF n : Nat} {st : Sto} {R : Int}
theorem toK (h : B FF m R s0 t) (hN : m ≤ N) (hr : R ≤ room) : Kx (FF + 5) N s0 t room := by
 have := h (N - m) room hr
 rwa [show N - m + m = N by omega] at this
theorem ajc (h : Tr .num k t) (n : Nat) (st : Sto) : C (FF + 5) (n + 2) 2 [t] st = .ok (.bl false) st := by
 cases h with
 | unk _ => kernel_rfl
 | num _ => kernel_rfl
 | wei _ _ => kernel_rfl
 | plu _ _ => kernel_rfl
 | calf _ => kernel_rfl
 | calg _ _ => kernel_rfl
 | rea _ _ => kernel_rfl
theorem Tn (h : Tr .num k t) : (∃ x y, t = .tup [.str x, y]) ∨ ∃ x y z, t = .tup [.str x, y, z] := by
 cases h with
 | unk _ => exact .inl ⟨_, _, rfl⟩
 | num _ => exact .inl ⟨_, _, rfl⟩
 | wei _ _ => exact .inr ⟨_, _, _, rfl⟩
 | plu _ _ => exact .inl ⟨_, _, rfl⟩
 | calf _ => exact .inr ⟨_, _, _, rfl⟩
 | calg _ _ => exact .inr ⟨_, _, _, rfl⟩
 | rea _ _ => exact .inr ⟨_, _, _, rfl⟩
theorem Li (hm : 2 ≤ m) : B FF m R s0 (.str x) := Ho hm fun n st _ => by kernel_rfl
theorem ajd (h : st[l]? = some (.lst xs)) : C FF (n + 1) 4 [.loc l] st = .ok .non st := by
 have : Wr (C FF (n + 1) 4 [.loc l] st) fun d s => d = .non ∧ s = st := by
  refine Bn [some (.loc l)] (b := Kl) rfl rfl (by decide) rfl ?_
  unfold Kl
  exact Af (Ba (Cd (Ce (dk (w_var rfl ⟨.b "list", false, Ki (Dc h), rfl, Jg (bx (Af (Ay (Ac ⟨rfl, rfl⟩))))⟩)))))
 obtain ⟨d, s, e, rfl, rfl⟩ := this
 exact e
theorem kn (hx : (bp UNK (.str x)).getD .non = .non) (n : Nat) (st : Sto) (H : Has st) : Wr (C FF (n + 1) 32 [.loc NL, .str x] st) fun d s => d = .non ∧ s = st := (Te H).imp fun d s q => ⟨q.1.trans hx, q.2⟩
theorem fnn (hx : (bp DEE (.str x)).getD .non = .non) (n : Nat) (st : Sto) (H : Has st) : Wr (C FF (n + 1) 34 [.loc NL, .str x] st) fun d s => d = .non ∧ s = st := (Nt H).imp fun d s q => ⟨q.1.trans hx, q.2⟩
def WR (num thing arr : D) (l1 l2 l3 l4 : Nat) : List D := [.tup [], .non, .int 5, W "x", .tup [W "x"], .tup [W "number"], .tup [W "number", .int 1],
 .tup [W "number", .tup [.int 2, .int 4]], .tup [W "number", .tup [.int 1, .int 0]], .tup [W "number", .int 1, .int 1],
 .tup [W "unknown", W "z"], .tup [W "unknown", W "f"], .tup [W "unknown", .non],
 .tup [W "unknown"], .tup [W "unknown", .loc l1], .tup [W "Unknown", W "x"],
 .tup [W "weigh", .int 2, num], .tup [W "weigh", .tup [.int 1, .int 1]], .tup [W "weigh", .tup [.int 1, .int 1], thing],
 .tup [W "weigh", .tup [.int 1, .int 1], arr], .tup [W "weigh", num, .tup [.int 1, .int 1]],
 .tup [W "plus", .loc l2], .tup [W "plus", num], .tup [W "plus", .tup [num, thing]],
 .tup [W "plus", .tup [num], num], .tup [W "plus", .tup [arr]],
 .tup [W "call", W "f", num], .tup [W "call", W "f", .tup [num, num]],
 .tup [W "call", W "f", .tup [thing]], .tup [W "call", W "x", .tup [num]], .tup [W "call", W "f"],
 .tup [W "call", W "g", .tup [thing, num]], .tup [W "call", W "g", .tup [num]],
 .tup [W "call", W "h", .tup [num]], .tup [W "call", W "zz", .tup []], .tup [W "call", .non, .tup [num]],
 .tup [W "read", num, num], .tup [W "read", arr, thing], .tup [W "read", arr],
 .tup [W "read", arr, num, num], .tup [W "read", W "a", num],
 .tup [W "put", arr, num], .tup [W "put", arr, thing, num], .tup [W "put", num, num, num],
 .tup [W "put", arr, num, arr], .loc l3,
 .tup [W "call", W "f", .loc l4], .tup [W "number", .tup [.bl true, .int 1]], .tup [.non, W "x"], .tup [.tup [W "unknown", W "x"]]]
theorem aje {num thing arr : D} {l1 l2 l3 l4 : Nat} {x1 x2 x3 x4 : List D} {s0 : Sto} (hn : Tr .num 4 num) (ht : Tr .thing 4 thing) (ha : Tr .array 4 arr) (h1 : s0[l1]? = some (.lst x1)) (h2 : s0[l2]? = some (.lst x2)) (h3 : s0[l3]? = some (.lst x3)) (h4 : s0[l4]? = some (.lst x4)) :
    ∀ t ∈ WR num thing arr l1 l2 l3 l4, B FF 18 5 s0 t := by
  have N : ∀ {N : Nat} {room : Int}, 15 ≤ N → 4 ≤ room → Kw (FF + 5) N .num num room := fun a b => kwN hn (by omega) (by omega)
  have T : ∀ {N : Nat} {room : Int}, 15 ≤ N → 4 ≤ room → Kw (FF + 5) N .thing thing room := fun a b => kwN ht (by omega) (by omega)
  have A : ∀ {N : Nat} {room : Int}, 15 ≤ N → 4 ≤ room → Kw (FF + 5) N .array arr room := fun a b => kwN ha (by omega) (by omega)
  have na : Kd.num ≠ .array := fun h => by cases h
  have nt : Kd.num ≠ .thing := fun h => by cases h
  have tn : Kd.thing ≠ .num := fun h => by cases h
  have an : Kd.array ≠ .num := fun h => by cases h
  intro t h
  simp only [WR, List.mem_cons, List.not_mem_nil, or_false] at h
  rcases h with rfl | rfl | rfl | rfl | rfl | rfl | rfl | rfl | rfl | rfl | rfl | rfl | rfl | rfl | rfl | rfl | rfl | rfl | rfl | rfl | rfl | rfl | rfl | rfl | rfl | rfl | rfl | rfl | rfl | rfl | rfl | rfl | rfl | rfl | rfl | rfl | rfl | rfl | rfl | rfl | rfl | rfl | rfl | rfl | rfl | rfl | rfl | rfl | rfl | rfl
  · exact Ho (by decide) fun n st _ => by kernel_rfl
  · exact Ho (by decide) fun n st _ => by kernel_rfl
  · exact Ho (by decide) fun n st _ => by kernel_rfl
  · exact Li (by decide)
  · exact Ed (by decide) (odt rfl) (.inl (by decide +kernel))
  · exact Ed (by decide) (odt rfl) (.inr ⟨2, by decide +kernel, by decide +kernel⟩)
  · exact lh (by decide) fun n st => by kernel_rfl
  · exact lh (by decide) fun n st => by kernel_rfl
  · exact lh (by decide) fun n st => by kernel_rfl
  · exact Ed (by decide) (odt rfl) (.inr ⟨2, by decide +kernel, by decide +kernel⟩)
  · exact Lh (by decide) fun n st H _ => kn (by decide +kernel) n st H
  · exact Lh (by decide) fun n st H _ => kn (by decide +kernel) n st H
  · exact Lh (by decide) fun n st H _ => tf rfl rfl
  · exact Ed (by decide) (odt rfl) (.inr ⟨2, by decide +kernel, by decide +kernel⟩)
  · exact Lh (by decide) fun n st H E => tf (Ki (Dc (E.at h1))) rfl
  · exact Ed (by decide) (odt rfl) (.inl (by decide +kernel))
  · exact tm (by decide) fun n st => by kernel_rfl
  · exact Ed (by decide) (odt rfl) (.inr ⟨3, by decide +kernel, rfl⟩)
  · exact Nu (by decide) (.inl rfl) fun n room hr => .other (T (by omega) (by omega)) tn
  · exact Nu (by decide) (.inl rfl) fun n room hr => .other (A (by omega) (by omega)) an
  · exact tm (by decide) (ajc hn)
  · exact ajb (by decide) h2
  · rcases Tn hn with ⟨x, y, rfl⟩ | ⟨x, y, z, rfl⟩
    · exact Jm (by decide) (odt rfl) fun n room hr => .bad (toK (Li (R := 0) (m := 2) (by decide)) (by omega) (by omega))
    · exact Jm (by decide) (odt rfl) fun n room hr => .bad (toK (Li (R := 0) (m := 2) (by decide)) (by omega) (by omega))
  · exact Jm (by decide) (odt rfl) fun n room hr => .next (N (by omega) (by omega)) (.other (T (by omega) (by omega)) tn)
  · exact Ed (by decide) (odt rfl) (.inr ⟨2, by decide +kernel, rfl⟩)
  · exact Jm (by decide) (odt rfl) fun n room hr => .other (A (by omega) (by omega)) an
  · rcases Tn hn with ⟨x, y, rfl⟩ | ⟨x, y, z, rfl⟩
    · exact fu (by decide) Gj fun n room hr => .len (by simp)
    · exact fu (by decide) Gj fun n room hr => .len (by simp)
  · exact fu (by decide) Gj fun n room hr => .len (by simp)
  · exact fu (by decide) Gj fun n room hr => .off rfl (.other (T (by omega) (by omega)) tn)
  · exact nv (by decide) (fnn (by decide +kernel))
  · exact Ed (by decide) (odt rfl) (.inr ⟨3, by decide +kernel, rfl⟩)
  · exact fu (by decide) nu fun n room hr => .off rfl (.other (T (by omega) (by omega)) tn)
  · exact fu (by decide) nu fun n room hr => .len (by simp)
  · exact fu (by decide) Tj fun n room hr => .off rfl (.other (N (by omega) (by omega)) nt)
  · exact nv (by decide) (fnn (by decide +kernel))
  · exact nv (by decide) fun n st H => aif rfl rfl
  · exact jn (by decide) fun n room hr => .other (N (by omega) (by omega)) na
  · exact jn (by decide) fun n room hr => .next (A (by omega) (by omega)) (.other (T (by omega) (by omega)) tn)
  · exact Ed (by decide) (odt rfl) (.inr ⟨3, by decide +kernel, rfl⟩)
  · exact Ed (by decide) (odt rfl) (.inr ⟨3, by decide +kernel, rfl⟩)
  · exact jn (by decide) fun n room hr => .bad (toK (Li (R := 0) (m := 2) (by decide)) (by omega) (by omega))
  · exact Ed (by decide) (odt rfl) (.inr ⟨4, by decide +kernel, rfl⟩)
  · exact Jn (by decide) fun n room hr => .next (A (by omega) (by omega)) (.other (T (by omega) (by omega)) tn)
  · exact Jn (by decide) fun n room hr => .other (N (by omega) (by omega)) na
  · exact Jn (by decide) fun n room hr => .next (A (by omega) (by omega)) (.next (N (by omega) (by omega)) (.other (A (by omega) (by omega)) an))
  · exact Ho (by decide) fun n st E => ajd (E.at h3)
  · exact fu (by decide) Gj fun n room hr => .lst h4
  · exact lh (by decide) fun n st => by kernel_rfl
  · exact Ho (by decide) fun n st _ => by kernel_rfl
  · exact Ho (by decide) fun n st _ => by kernel_rfl
end
section
variable {FF n : Nat} {st : Sto} {R : Int}
theorem ajf {t : Nat → Ty → Option Bool} {call : Or} {F : Nat} {env : DD.Env} {P : Sto → Prop} {QF : Fl → Sto → Prop} {b h' : Ss} {c i : Nat} (hb : Xr P (aj t call F b env st)) (ht : t 2 (.o c) = some true) (hi : i < env.length) (hh : ∀ s, P s → Wr (aj t call F h' (blank env i (.loc s.length)) (s ++ [.exn 2])) fun f s' => ∃ d, f = .ret d ∧ QF (.ret d) s') : Wr (An t call F (.tryS b c i h') env st) QF := by
 obtain ⟨s, e, p⟩ := hb
 obtain ⟨f, s', e2, d, rfl, q⟩ := hh s p
 refine ⟨.ret d, s', ?_, q⟩
 rw [An, e]
 simp only [ht, hi, if_true, e2]
theorem gk (h : st[l]? = some (.exn 2)) : Cy st (.loc l) = some (.o 2) := by simp [Cy, h, Pf]
theorem Br : (s ++ [c])[s.length]? = some c := by simp
theorem ajg (h : st[l]? = some (.lst ([.bl false, .bl false] ++ [.bl false, .bl false] ++ [.bl false, .bl false]))) : cmD .notIn (.bl true) (.loc l) st = .ok (.bl true) st := by
 have e1 : Cc st l = none := by simp only [Cc, h]
 have e2 : jw st l = none := by simp only [jw, h]
 have e3 : Aq st 41 (.loc l) = some (.list [.bool false, .bool false, .bool false, .bool false, .bool false, .bool false]) := by
  rw [Aq, Dc h]; simp [Ca, Aq]
 have e4 : Aq st 40 (.bl true) = some (.bool true) := by simp only [Aq]
 simp only [cmD, inD, e1, e2, inS, e3, e4]
 rfl
theorem refused (h : Kx FF n s0 t 12) (H : Has st) (E : Ex s0 st) : Wr (C FF (n + 2) 42 [.loc NL, t] st) fun d s => d = .bl true ∧ Ex st s := by
 have hk : Xr (Ex st) (C FF (n + 1) 5 [.loc NL, t] st) := by
  refine Ct [some (.loc NL), some t] (b := Ii) rfl rfl (by decide) rfl ?_
  unfold Ii
  exact Bz (Sz (gj (Aa (w_var rfl (Aa (w_var rfl (Aa (Ac (af (h st H E))))))))))
 refine Bn [some (.loc NL), some t, none, none] (b := Kp) rfl rfl (by decide) rfl ?_
 unfold Kp
 refine Af (ajf (P := Ex st) (Bz (Iw (gj (Aa (w_var rfl (Aa (w_var rfl (af hk)))))))) rfl (odt rfl) fun s E1 => ?_)
 have g0 : (s ++ [Cell.exn 2])[s.length]? = some (.exn 2) := Br
 have E2 : Ex st (s ++ [.exn 2]) := E1.trans .one
 show Wr (aj tab (C FF (n + 1)) FF _ [none, none, some (.loc s.length), none] _) _
 generalize s.length = l at g0 ⊢
 generalize s ++ [Cell.exn 2] = s1 at g0 E2 ⊢
 refine Af (ba (dg (Aa (Ga (w_var rfl ⟨_, false, gk g0, rfl, Aa (Ga (w_var rfl ⟨_, false, gk g0, rfl, af ⟨odt rfl, odt rfl, Ah (Af (ba ?_))⟩⟩))⟩)))))
 have a1 : (s1 ++ [Cell.lst [.bl false, .bl false]])[s1.length]? = some (.lst [.bl false, .bl false]) := Br
 have g1 : (s1 ++ [Cell.lst [.bl false, .bl false]])[l]? = some (.exn 2) := Ex.one _ _ g0
 have E3 : Ex st (s1 ++ [Cell.lst [.bl false, .bl false]]) := E2.trans .one
 generalize s1.length = l1 at a1 ⊢
 generalize s1 ++ [Cell.lst [.bl false, .bl false]] = s2 at a1 g1 E3 ⊢
 refine ai (w_var rfl (dg (Aa (Ga (w_var rfl ⟨_, false, gk g1, rfl, Aa (Ga (w_var rfl ⟨_, false, gk g1, rfl, af ⟨odt rfl, jh (Ex.one _ _ a1) Br (by decide) ⟨odt rfl, Ah (Af (ba ?_))⟩⟩⟩))⟩)))))
 have a2 : (s2 ++ [Cell.lst [.bl false, .bl false]] ++ [Cell.lst ([.bl false, .bl false] ++ [.bl false, .bl false])])[(s2 ++ [Cell.lst [.bl false, .bl false]]).length]? = some (.lst ([.bl false, .bl false] ++ [.bl false, .bl false])) := Br
 have g2 : (s2 ++ [Cell.lst [.bl false, .bl false]] ++ [Cell.lst ([.bl false, .bl false] ++ [.bl false, .bl false])])[l]? = some (.exn 2) := Ex.one _ _ (Ex.one _ _ g1)
 have E4 : Ex st (s2 ++ [Cell.lst [.bl false, .bl false]] ++ [Cell.lst ([.bl false, .bl false] ++ [.bl false, .bl false])]) := (E3.trans .one).trans .one
 generalize (s2 ++ [Cell.lst [.bl false, .bl false]]).length = l2 at a2 ⊢
 generalize s2 ++ [Cell.lst [.bl false, .bl false]] ++ [Cell.lst ([.bl false, .bl false] ++ [.bl false, .bl false])] = s3 at a2 g2 E4 ⊢
 refine ai (w_var rfl (dg (Aa (Ga (w_var rfl ⟨_, false, gk g2, rfl, Aa (Ga (w_var rfl ⟨_, false, gk g2, rfl, af ⟨odt rfl, jh (Ex.one _ _ a2) Br (by decide) ⟨odt rfl, Ah (Af (Ay ?_))⟩⟩⟩))⟩)))))
 have g3 : ∀ c d : Cell, (s3 ++ [c] ++ [d])[l]? = some (.exn 2) := fun c d => Ex.one _ _ (Ex.one _ _ g2)
 refine w_and (Ga (w_var rfl ⟨_, true, gk (g3 _ _), rfl, true, rfl, bx (w_and (Ga (w_var rfl ⟨_, true, gk (g3 _ _), rfl, true, rfl, bx ?_⟩)))⟩))
 exact kh (Ac (w_var rfl (Bi (ajg Br) ⟨_, rfl, rfl, (E4.trans .one).trans .one⟩)))
inductive Rd (w num arr : D) : D → Prop
 | a : Rd w num arr (.tup [W "weigh", .tup [.int 2, .int 1], w])
 | b : Rd w num arr (.tup [W "plus", .tup [num, w]])
 | c : Rd w num arr (.tup [W "call", W "f", .tup [w]])
 | d : Rd w num arr (.tup [W "read", arr, w])
 | e : Rd w num arr (.tup [W "put", arr, w, num])
 | f : Rd w num arr (.tup [W "read", .tup [W "put", arr, num, w], num])
 | g : Rd w num arr w
theorem To : Wr (C FF (n + 1) 44 [w, num, arr, .int c] st) fun d s => Rd w num arr d ∧ s = st := by
 refine Bn [some w, some num, some arr, some (.int c)] (b := Kq) rfl rfl (by decide) rfl ?_
 unfold Kq
 refine Af (Ba (ax (ai (w_var rfl (Ac (bj (by decide) (Ac (Cn ⟨_, rfl, fun _ => ?_, fun _ => ?_⟩))))))))
 · exact Af (Ay (ao (Aa (Ac (Aa (ao (Aa (Ac (Aa (Ac (af ⟨odt rfl, Aa (w_var rfl (af ⟨odt rfl, .a, rfl⟩))⟩)))))))))))
 refine Ap (Ah (Af (Ba (ax (ai (w_var rfl (Ac (bj (by decide) (Ac (Cn ⟨_, rfl, fun _ => ?_, fun _ => ?_⟩))))))))))
 · exact Af (Ay (ao (Aa (Ac (Aa (ao (Aa (w_var rfl (Aa (w_var rfl (af ⟨odt rfl, af ⟨odt rfl, .b, rfl⟩⟩)))))))))))
 refine Ap (Ah (Af (Ba (ax (ai (w_var rfl (Ac (bj (by decide) (Ac (Cn ⟨_, rfl, fun _ => ?_, fun _ => ?_⟩))))))))))
 · exact Af (Ay (ao (Aa (Ac (Aa (Ac (Aa (ao (Aa (w_var rfl (af ⟨odt rfl, af ⟨odt rfl, .c, rfl⟩⟩)))))))))))
 refine Ap (Ah (Af (Ba (ax (ai (w_var rfl (Ac (bj (by decide) (Ac (Cn ⟨_, rfl, fun _ => ?_, fun _ => ?_⟩))))))))))
 · exact Af (Ay (ao (Aa (Ac (Aa (w_var rfl (Aa (w_var rfl (af ⟨odt rfl, .d, rfl⟩)))))))))
 refine Ap (Ah (Af (Ba (ax (ai (w_var rfl (Ac (bj (by decide) (Ac (Cn ⟨_, rfl, fun _ => ?_, fun _ => ?_⟩))))))))))
 · exact Af (Ay (ao (Aa (Ac (Aa (w_var rfl (Aa (w_var rfl (Aa (w_var rfl (af ⟨odt rfl, .e, rfl⟩)))))))))))
 refine Ap (Ah (Af (Ba (ax (ai (w_var rfl (Ac (bj (by decide) (Ac (Cn ⟨_, rfl, fun _ => ?_, fun _ => ?_⟩))))))))))
 · exact Af (Ay (ao (Aa (Ac (Aa (ao (Aa (Ac (Aa (w_var rfl (Aa (w_var rfl (Aa (w_var rfl (af ⟨odt rfl, Aa (w_var rfl (af ⟨odt rfl, .f, rfl⟩))⟩)))))))))))))))
 exact Ap (Ah (Af (Ay (w_var rfl ⟨.g, rfl⟩))))
theorem Tp (hn : Tr .num 4 num) (ha : Tr .array 4 arr) (h : B FF m R s0 w) (hm : 15 ≤ m) (hR : 5 ≤ R) (hd : Rd w num arr d) : B FF (m + 6) (R + 2) s0 d := by
 have N : ∀ {N : Nat} {room : Int}, 15 ≤ N → 4 ≤ room → Kw (FF + 5) N .num num room := fun a b => kwN hn (by omega) (by omega)
 have A : ∀ {N : Nat} {room : Int}, 15 ≤ N → 4 ≤ room → Kw (FF + 5) N .array arr room := fun a b => kwN ha (by omega) (by omega)
 cases hd with
 | a => exact Nu (by omega) (.inl rfl) fun n room hr => .bad (toK h (by omega) (by omega))
 | b => exact Jm (by omega) (odt rfl) fun n room hr => .next (N (by omega) (by omega)) (.bad (toK h (by omega) (by omega)))
 | c => exact fu (by omega) Gj fun n room hr => .off rfl (.bad (toK h (by omega) (by omega)))
 | d => exact jn (by omega) fun n room hr => .next (A (by omega) (by omega)) (.bad (toK h (by omega) (by omega)))
 | e => exact Jn (by omega) fun n room hr => .next (A (by omega) (by omega)) (.bad (toK h (by omega) (by omega)))
 | f =>
  have h2 : B FF (m + 3) (R + 1) s0 (.tup [W "put", arr, num, w]) := Jn (by omega) fun n room hr => .next (A (by omega) (by omega)) (.next (N (by omega) (by omega)) (.bad (toK h (by omega) (by omega))))
  exact jn (by omega) fun n room hr => .bad (toK h2 (by omega) (by omega))
 | g => exact aja h (by omega) (by omega)
end
section
variable {FF n : Nat} {st : Sto} {R : Int}
theorem iy (h0 : 0 ≤ i) (h1 : i < xs.length) : ∃ d, L2.atI xs i = some d ∧ d ∈ xs := by
 have h2 : i.toNat < xs.length := by omega
 refine ⟨xs[i.toNat], ?_, List.getElem_mem h2⟩
 simp only [L2.atI, L2.ixN, h0, h1, if_true, Option.bind_some]
 exact List.getElem?_eq_getElem h2
abbrev EN (n1 n2 n3 n4 n5 : D) (e : Option D) : DD.Env := [some n1, some n2, some n3, some n4, some n5, e]
theorem de {call : Or} {F : Nat} {n1 n2 n3 n4 n5 : D} {QF : Fl → Sto → Prop} {a : Nat} {xs : List D} {es : Es} (ha : st[a]? = some (.lst xs)) (h : Wr (Au tab call es (EN n1 n2 n3 n4 n5 (some (.loc a))) st) fun ds s => Ex st s ∧ ds.length ≤ 20 ∧ xs.length ≤ 100 ∧ ∀ (s' : Sto) (a' : Nat), Ex s s' → s'[a']? = some (.lst (xs ++ ds)) → QF (.next (EN n1 n2 n3 n4 n5 (some (.loc a')))) s') : Wr (An tab call F (.set 5 (.op .add (.var 5) (.lstE es))) (EN n1 n2 n3 n4 n5 (some (.loc a))) st) QF := by
 refine ba (ai (w_var rfl (dg (h.imp ?_))))
 rintro ds s ⟨E, h1, h2, q⟩
 exact ⟨Nat.le_trans h1 (by decide), jh (Ex.one _ _ (E.at ha)) Br (Nat.le_trans (Nat.add_le_add h2 h1) (by decide)) ⟨odt rfl, q _ _ (Ex.one.trans .one) Br⟩⟩
theorem ajh {call : Or} {F : Nat} {n1 n2 n3 n4 n5 : D} {e : Option D} {QF : Fl → Sto → Prop} {es : Es} (h : Wr (Au tab call es (EN n1 n2 n3 n4 n5 e) st) fun ds s => Ex st s ∧ ds.length ≤ 20 ∧ ∀ (s' : Sto) (a' : Nat), Ex s s' → s'[a']? = some (.lst ds) → QF (.next (EN n1 n2 n3 n4 n5 (some (.loc a')))) s') : Wr (An tab call F (.set 5 (.lstE es)) (EN n1 n2 n3 n4 n5 e) st) QF := by
 refine ba (dg (h.imp ?_))
 rintro ds s ⟨E, h1, q⟩
 exact ⟨Nat.le_trans h1 (by decide), odt rfl, q _ _ .one Br⟩
theorem aji {call : Or} {n1 n2 n3 n5 : D} {Q : D → Sto → Prop} {a : Nat} {c : Int} {xs : List D} {es : Es} (ha : st[a]? = some (.lst xs)) (h : Wr (Au tab call es (EN n1 n2 n3 (.int c) n5 (some (.loc a))) st) fun ds s => Ex st s ∧ ds.length ≤ 20 ∧ xs.length ≤ 100 ∧ xs.length + ds.length = 50 ∧ ∀ (s' : Sto) (d : D), Ex s s' → d ∈ xs ++ ds → Q d s') : Wr (Ad tab call (.ix (.op .add (.var 5) (.lstE es)) (.op .mod (.var 3) (.cst (.int 50)))) (EN n1 n2 n3 (.int c) n5 (some (.loc a))) st) Q := by
 refine bq (ai (w_var rfl (dg (h.imp ?_))))
 rintro ds s ⟨E, h1, h2, h6, q⟩
 refine ⟨Nat.le_trans h1 (by decide), jh (Ex.one _ _ (E.at ha)) Br (Nat.le_trans (Nat.add_le_add h2 h1) (by decide)) (ai (w_var rfl (Ac (bj (by decide) ?_))))⟩
 obtain ⟨d, e, hd⟩ := iy (xs := xs ++ ds) (i := c.fmod 50) (fm0 (by decide)) (by rw [List.length_append, h6]; exact fm1 (by decide))
 exact gc (Dc Br) e (q _ d (Ex.one.trans .one) hd)
theorem ajj {num thing arr : D} {c : Int} : Wr (C FF (n + 1) 43 [num, thing, arr, .int c] st) fun d s => ∃ (l1 l2 l3 l4 : Nat) (x1 x2 x3 x4 : List D), d ∈ WR num thing arr l1 l2 l3 l4 ∧ s[l1]? = some (.lst x1) ∧ s[l2]? = some (.lst x2) ∧ s[l3]? = some (.lst x3) ∧ s[l4]? = some (.lst x4) ∧ Ex st s := by
 refine Bn [some num, some thing, some arr, some (.int c), none, none] (b := kq) rfl rfl (by decide) rfl ?_
 unfold kq
 refine Af (ba (ao (Aa (Ac (Aa (ao (Aa (Ac (Aa (Ac (af ⟨odt rfl, af ⟨odt rfl, odt rfl, Ah ?_⟩⟩)))))))))))
 refine Af (ajh (Bi (a := [.tup [], .non, .int 5, W "x", .tup [W "x"], .tup [W "number"], .tup [W "number", .int 1]]) (s := st) (by kernel_rfl) ⟨.refl _, odt rfl, fun s0 a0 E0 A0 => Ah ?_⟩))
 refine Af (de A0 (Bi (a := [.tup [W "number", .tup [.int 2, .int 4]], .tup [W "number", .tup [.int 1, .int 0]], .tup [W "number", .int 1, .int 1]]) (s := s0) (by kernel_rfl) ⟨.refl _, odt rfl, by simp, fun s1 a1 F1 A1 => Ah ?_⟩))
 have E1 := E0.trans (F1)
 refine Af (de A1 (Bi (a := [.tup [W "unknown", W "z"], .tup [W "unknown", W "f"], .tup [W "unknown", .non]]) (s := s1) (by kernel_rfl) ⟨.refl _, odt rfl, by simp, fun s2 a2 F2 A2 => Ah ?_⟩))
 have E2 := E1.trans (F2)
 refine Af (de A2 (Bi (a := [.tup [W "unknown"], .tup [W "unknown", .loc s2.length], .tup [W "Unknown", W "x"]]) (s := s2 ++ [Cell.lst [W "x"]]) (by kernel_rfl) ⟨.one, odt rfl, by simp, fun s3 a3 F3 A3 => Ah ?_⟩))
 have L1 := F3.at Br
 have E3 := E2.trans (Ex.one.trans F3)
 refine Af (de A3 (Bi (a := [.tup [W "weigh", .int 2, num], .tup [W "weigh", .tup [.int 1, .int 1]], .tup [W "weigh", .tup [.int 1, .int 1], thing]]) (s := s3) (by kernel_rfl) ⟨.refl _, odt rfl, by simp, fun s4 a4 F4 A4 => Ah ?_⟩))
 have E4 := E3.trans (F4)
 replace L1 := Ex.at (F4) L1
 refine Af (de A4 (Bi (a := [.tup [W "weigh", .tup [.int 1, .int 1], arr], .tup [W "weigh", num, .tup [.int 1, .int 1]]]) (s := s4) (by kernel_rfl) ⟨.refl _, odt rfl, by simp, fun s5 a5 F5 A5 => Ah ?_⟩))
 have E5 := E4.trans (F5)
 replace L1 := Ex.at (F5) L1
 refine Af (de A5 (Bi (a := [.tup [W "plus", .loc s5.length], .tup [W "plus", num], .tup [W "plus", .tup [num, thing]]]) (s := s5 ++ [Cell.lst [num]]) (by kernel_rfl) ⟨.one, odt rfl, by simp, fun s6 a6 F6 A6 => Ah ?_⟩))
 have L2 := F6.at Br
 have E6 := E5.trans (Ex.one.trans F6)
 replace L1 := Ex.at (Ex.one.trans F6) L1
 refine Af (de A6 (Bi (a := [.tup [W "plus", .tup [num], num], .tup [W "plus", .tup [arr]]]) (s := s6) (by kernel_rfl) ⟨.refl _, odt rfl, by simp, fun s7 a7 F7 A7 => Ah ?_⟩))
 have E7 := E6.trans (F7)
 replace L1 := Ex.at (F7) L1
 replace L2 := Ex.at (F7) L2
 refine Af (de A7 (Bi (a := [.tup [W "call", W "f", num], .tup [W "call", W "f", .tup [num, num]]]) (s := s7) (by kernel_rfl) ⟨.refl _, odt rfl, by simp, fun s8 a8 F8 A8 => Ah ?_⟩))
 have E8 := E7.trans (F8)
 replace L1 := Ex.at (F8) L1
 replace L2 := Ex.at (F8) L2
 refine Af (de A8 (Bi (a := [.tup [W "call", W "f", .tup [thing]], .tup [W "call", W "x", .tup [num]], .tup [W "call", W "f"]]) (s := s8) (by kernel_rfl) ⟨.refl _, odt rfl, by simp, fun s9 a9 F9 A9 => Ah ?_⟩))
 have E9 := E8.trans (F9)
 replace L1 := Ex.at (F9) L1
 replace L2 := Ex.at (F9) L2
 refine Af (de A9 (Bi (a := [.tup [W "call", W "g", .tup [thing, num]], .tup [W "call", W "g", .tup [num]]]) (s := s9) (by kernel_rfl) ⟨.refl _, odt rfl, by simp, fun s10 a10 F10 A10 => Ah ?_⟩))
 have E10 := E9.trans (F10)
 replace L1 := Ex.at (F10) L1
 replace L2 := Ex.at (F10) L2
 refine Af (de A10 (Bi (a := [.tup [W "call", W "h", .tup [num]], .tup [W "call", W "zz", .tup []], .tup [W "call", .non, .tup [num]]]) (s := s10) (by kernel_rfl) ⟨.refl _, odt rfl, by simp, fun s11 a11 F11 A11 => Ah ?_⟩))
 have E11 := E10.trans (F11)
 replace L1 := Ex.at (F11) L1
 replace L2 := Ex.at (F11) L2
 refine Af (de A11 (Bi (a := [.tup [W "read", num, num], .tup [W "read", arr, thing], .tup [W "read", arr]]) (s := s11) (by kernel_rfl) ⟨.refl _, odt rfl, by simp, fun s12 a12 F12 A12 => Ah ?_⟩))
 have E12 := E11.trans (F12)
 replace L1 := Ex.at (F12) L1
 replace L2 := Ex.at (F12) L2
 refine Af (de A12 (Bi (a := [.tup [W "read", arr, num, num], .tup [W "read", W "a", num]]) (s := s12) (by kernel_rfl) ⟨.refl _, odt rfl, by simp, fun s13 a13 F13 A13 => Ah ?_⟩))
 have E13 := E12.trans (F13)
 replace L1 := Ex.at (F13) L1
 replace L2 := Ex.at (F13) L2
 refine Af (de A13 (Bi (a := [.tup [W "put", arr, num], .tup [W "put", arr, thing, num], .tup [W "put", num, num, num]]) (s := s13) (by kernel_rfl) ⟨.refl _, odt rfl, by simp, fun s14 a14 F14 A14 => Ah ?_⟩))
 have E14 := E13.trans (F14)
 replace L1 := Ex.at (F14) L1
 replace L2 := Ex.at (F14) L2
 refine Af (de A14 (Bi (a := [.tup [W "put", arr, num, arr], .loc s14.length]) (s := s14 ++ [Cell.lst [W "number", .tup [.int 1, .int 1]]]) (by kernel_rfl) ⟨.one, odt rfl, by simp, fun s15 a15 F15 A15 => Ah ?_⟩))
 have L3 := F15.at Br
 have E15 := E14.trans (Ex.one.trans F15)
 replace L1 := Ex.at (Ex.one.trans F15) L1
 replace L2 := Ex.at (Ex.one.trans F15) L2
 refine Af (Ay (aji A15 (Bi (a := [.tup [W "call", W "f", .loc s15.length], .tup [W "number", .tup [.bl true, .int 1]], .tup [.non, W "x"], .tup [.tup [W "unknown", W "x"]]]) (s := s15 ++ [Cell.lst [.tup [W "number", .tup [.int 1, .int 1]]]]) (by kernel_rfl) ⟨.one, odt rfl, by simp, by simp, fun s d F hd => ?_⟩)))
 simp only [List.cons_append, List.nil_append, List.append_assoc] at hd
 exact ⟨s2.length, s5.length, s14.length, s15.length, _, _, _, _, hd, (Ex.one.trans F).at L1, (Ex.one.trans F).at L2, (Ex.one.trans F).at L3, F.at Br, E15.trans (Ex.one.trans F)⟩
end
section
variable {FF n : Nat} {st : Sto} {R : Int}
inductive Dp (leaf : D) : Nat → D → Prop
 | z : Dp leaf 0 leaf
 | a {k : Nat} {t : D} : Dp leaf k t → Dp leaf (k + 1) (.tup [W "weigh", .tup [.int 1, .int 2], t])
 | b {k : Nat} {t : D} : Dp leaf k t → Dp leaf (k + 1) (.tup [W "plus", .tup [.tup [W "number", .tup [.int 1, .int 1]], t]])
 | c {k : Nat} {t : D} : Dp leaf k t → Dp leaf (k + 1) (.tup [W "call", W "f", .tup [t]])
 | d {k : Nat} {t : D} : Dp leaf k t → Dp leaf (k + 1) (.tup [W "read", .tup [W "unknown", W "a"], t])
theorem ajk {m : Nat} (h : m ≤ 4000) : Ef [.int (m : Int)] = some (Fe 0 m) := by
 simp only [Ef]
 rw [if_pos ⟨by omega, by omega⟩]
 simp
theorem ajl : (Fe 0 m).length = m := by simp [Fe]
theorem Nv {w z : Int} {leaf : D} (m : Nat) (hz : z = m) (hm : m ≤ 4000) : Wr (C FF (n + 1) 45 [.int w, leaf, .int z] st) fun d s => Dp leaf m d ∧ s = st := by
 subst hz
 refine Bn [some (.int w), some leaf, some (.int m), none] (b := kr) rfl rfl (by decide) rfl ?_
 unfold kr
 refine Af (ki (Aa (w_var rfl (af ⟨_, ajk hm, ?_⟩))))
 refine jg (fun j env s => (∃ d e, env = [some (.int w), some d, some (.int m), e] ∧ Dp leaf j d) ∧ s = st) (fun _ _ _ _ => rfl) ⟨⟨_, _, rfl, .z⟩, rfl⟩ ?_ ?_
 · rintro j x hx env s ⟨⟨d, e, rfl, hd⟩, rfl⟩
   refine Jf (env' := [some (.int w), some d, some (.int m), some x]) rfl ?_
   refine Af (Ba (ax (w_var rfl (Ac (Cn ⟨_, rfl, fun _ => ?_, fun _ => ?_⟩)))))
   · exact Af (ba (ao (Aa (Ac (Aa (ao (Aa (Ac (Aa (Ac (af ⟨odt rfl, Aa (w_var rfl (af ⟨odt rfl, odt rfl, Ah (Ap (Ah (Ap ⟨_, rfl, ⟨_, _, rfl, .a hd⟩, rfl⟩)))⟩))⟩)))))))))))
   refine Af (Ba (ax (w_var rfl (Ac (Cn ⟨_, rfl, fun _ => ?_, fun _ => ?_⟩)))))
   · exact Af (ba (ao (Aa (Ac (Aa (ao (Aa (ao (Aa (Ac (Aa (ao (Aa (Ac (Aa (Ac (af ⟨odt rfl, af ⟨odt rfl, Aa (w_var rfl (af ⟨odt rfl, af ⟨odt rfl, odt rfl, Ah (Ap (Ah (Ap (Ah (Ap ⟨_, rfl, ⟨_, _, rfl, .b hd⟩, rfl⟩)))))⟩⟩))⟩⟩)))))))))))))))))
   refine Af (Ba (ax (w_var rfl (Ac (Cn ⟨_, rfl, fun _ => ?_, fun _ => ?_⟩)))))
   · exact Af (ba (ao (Aa (Ac (Aa (Ac (Aa (ao (Aa (w_var rfl (af ⟨odt rfl, af ⟨odt rfl, odt rfl, Ah (Ap (Ah (Ap (Ah (Ap (Ah (Ap ⟨_, rfl, ⟨_, _, rfl, .c hd⟩, rfl⟩)))))))⟩⟩)))))))))))
   exact Af (ba (ao (Aa (Ac (Aa (ao (Aa (Ac (Aa (Ac (af ⟨odt rfl, Aa (w_var rfl (af ⟨odt rfl, odt rfl, Ah (Ap (Ah (Ap (Ah (Ap (Ah (Ap ⟨_, rfl, ⟨_, _, rfl, .d hd⟩, rfl⟩)))))))⟩))⟩)))))))))))
 · rintro env s ⟨⟨d, e, rfl, hd⟩, rfl⟩
   rw [ajl] at hd
   exact Ah (Af (Ay (w_var rfl ⟨hd, rfl⟩)))
theorem tq : Tr .num (d + 1) (.tup [W "number", .tup [.int 1, .int 1]]) := .num (.inl rfl)
theorem Tq : Tr .array (d + 1) (.tup [W "unknown", W "a"]) := .unk (by decide +kernel)
theorem ajm (hl : Tr .num 1 leaf) (h : Dp leaf k d) : Tr .num (k + 1) d := by
 induction h with
 | z => exact hl
 | a _ i => exact .wei (.inr (.inl ⟨rfl, rfl⟩)) i
 | b _ i =>
  refine .plu (odt rfl) ?_
  intro t ht
  simp only [List.mem_cons, List.not_mem_nil, or_false] at ht
  rcases ht with rfl | rfl
  · exact tq
  · exact i
 | c _ i => exact .calf i
 | d _ i => exact .rea Tq i
theorem kx0 (h3 : r.length ≤ 3) (hN : 2 ≤ N) (hr : room < 1) : Kx (FF + 5) N s0 (.tup (.str x :: r)) room := fun st H E => by
 have := nr (FF := FF + 5) (n := N - 2) (st := st) (x := x) (r := r) h3 (.inl hr)
 rwa [show N - 2 + 2 = N by omega] at this
theorem kx1 (hN : 2 ≤ N) (hin : decide (x ∈ WRD) = true) (hv : LEN.lookup x = some (.int (l + 1 : Nat))) (hf : DED.lookup x = some i) (hl : r.length = l) (h3 : r.length ≤ 3) (hc : ([8, 9, 10, 11, 12, 13, 14] : List Nat).contains i = true)
    (h : ∀ st, 1 ≤ room → Has st → Ex s0 st → Xr (Ex st) (C (FF + 5) (N - 1) i [.loc NL, .tup (.str x :: r), .int (room - 1)] st)) : Kx (FF + 5) N s0 (.tup (.str x :: r)) room := fun st H E => by
  have := Tc (FF := FF + 5) (n := N - 2) (st := st) (room := room) (x := x) (r := r) hin hv hf hl h3 hc fun hr => by
    have := h (st ++ [.fnc i]) hr (H.ex .one) (E.trans .one)
    rwa [show N - 1 = N - 2 + 1 by omega] at this
  rwa [show N - 2 + 2 = N by omega] at this
theorem Ts (hl : ∃ x r, leaf = .tup (.str x :: r) ∧ r.length ≤ 3) (h : Dp leaf k d) : ∀ (room : Int) (N : Nat), room ≤ k → 2 ≤ N → 3 * room + 3 ≤ N → Kx (FF + 5) N s0 d room := by
 induction h with
 | z =>
  obtain ⟨x, r, rfl, h3⟩ := hl
  intro room N h1 h2 h4
  exact kx0 h3 h2 (by omega)
 | a _ ih =>
  intro room N h1 h2 h4
  refine kx1 (l := 2) (i := 10) h2 (by decide +kernel) (by decide +kernel) (by decide +kernel) rfl (odt rfl) rfl fun st hr H E => ?_
  have := Tf (FF := FF + 5) (n := N - 3) (room := room - 1) (f := .tup [.int 1, .int 2]) H E (by have := lg (FF := FF) (n := N - 4) (st := st) (p := 1) (q := 2) (.inr (.inl ⟨rfl, rfl⟩)); rwa [show N - 4 + 2 = N - 3 + 1 by omega] at this) (.bad (ih (room - 1) (N - 3) (by omega) (by omega) (by omega)))
  rwa [show N - 3 + 2 = N - 1 by omega] at this
 | @b k t _ ih =>
  intro room N h1 h2 h4
  refine kx1 (l := 1) (i := 11) h2 (by decide +kernel) (by decide +kernel) (by decide +kernel) rfl (odt rfl) rfl fun st hr H E => ?_
  have := Th (FF := FF + 5) (n := N - 3) (room := room - 1) (ts := [.tup [W "number", .tup [.int 1, .int 1]], t]) H E (odt rfl) (by
   by_cases g : room - 1 < 1
   · exact .bad (kx0 (x := Str.ofString "number") (r := [.tup [.int 1, .int 1]]) (odt rfl) (by omega) g)
   · exact .next (kwN (tq (d := 0)) (by omega) (by omega)) (.bad (ih (room - 1) (N - 3) (by omega) (by omega) (by omega))))
  rwa [show N - 3 + 2 = N - 1 by omega] at this
 | @c k t _ ih =>
  intro room N h1 h2 h4
  refine kx1 (l := 2) (i := 12) h2 (by decide +kernel) (by decide +kernel) (by decide +kernel) rfl (odt rfl) rfl fun st hr H E => ?_
  have := x_call (FF := FF + 5) (n := N - 3) (room := room - 1) H E Gj (.off (ts := [t]) rfl (.bad (ih (room - 1) (N - 3) (by omega) (by omega) (by omega))))
  rwa [show N - 3 + 2 = N - 1 by omega] at this
 | @d k t _ ih =>
  intro room N h1 h2 h4
  refine kx1 (l := 2) (i := 13) h2 (by decide +kernel) (by decide +kernel) (by decide +kernel) rfl (odt rfl) rfl fun st hr H E => ?_
  have := Ti (FF := FF + 5) (n := N - 3) (room := room - 1) H E (by
   by_cases g : room - 1 < 1
   · exact .bad (kx0 (x := Str.ofString "unknown") (r := [W "a"]) (odt rfl) (by omega) g)
   · exact .next (kwN (Tq (d := 0)) (by omega) (by omega)) (.bad (ih (room - 1) (N - 3) (by omega) (by omega) (by omega))))
  rwa [show N - 3 + 2 = N - 1 by omega] at this
theorem lj (H : Has st) (ht : Kw FF n b t 12) : Wr (C FF (n + 1) 5 [.loc NL, t] st) fun d s => d = kd b ∧ Ex st s := by
 refine Bn [some (.loc NL), some t] (b := Ii) rfl rfl (by decide) rfl ?_
 unfold Ii
 refine Af (Ay (av (Aa (w_var rfl (Aa (w_var rfl (Aa (Ac (af ((ht st H).imp ?_))))))))))
 exact fun d s q => q
theorem ajn : (!decide (kd b = kd b)) = false := by simp
theorem ajo {c : Int} (H : Has st) : Wr (C (FF + 5) (n + 60) 46 [.loc NL, .int c] st) fun d s => d = .bl true ∧ Ex st s := by
 refine Bn [some (.loc NL), some (.int c), none, none] (b := Kr) rfl rfl (by decide) rfl ?_
 unfold Kr
 refine Af (ba (ai (w_var rfl (Ac (bj (by decide) ⟨odt rfl, Ah (Af (ba ?_))⟩)))))
 refine bq (dg (Aa (ao (Aa (Ac (Aa (ao (Aa (Ac (Aa (Ac (af ⟨odt rfl, af ⟨odt rfl, Aa (ao (Aa (Ac (Aa (Ac (af ⟨odt rfl, af ⟨odt rfl, ?_⟩⟩))))))⟩⟩))))))))))))
 refine ai (ai (w_var rfl (Ac (cn (by decide) (Ac (bj (by decide) ?_))))))
 obtain ⟨leaf, e, hlf⟩ := iy (xs := [D.tup [W "number", .tup [.int 1, .int 3]], .tup [W "unknown", W "k"]]) (i := (c.fdiv 4).fmod 2) (fm0 (by decide)) (fm1 (by decide))
 have hl : Tr .num 1 leaf ∧ ∃ x r, leaf = .tup (.str x :: r) ∧ r.length ≤ 3 := by
  simp only [List.mem_cons, List.not_mem_nil, or_false] at hlf
  rcases hlf with rfl | rfl
  · exact ⟨.num (.inr (.inr ⟨rfl, by decide⟩)), _, _, rfl, odt rfl⟩
  · exact ⟨.unk (by decide +kernel), _, _, rfl, odt rfl⟩
 clear hlf
 refine gc (Dc Br) e ⟨odt rfl, Ah ?_⟩
 have H1 : ∀ c, Has (st ++ [c]) := fun c => H.ex .one
 have E1 : ∀ c, Ex st (st ++ [c]) := fun c => .one
 show Wr (aj tab (C (FF + 5) (n + 59)) (FF + 5) _ [some (.loc NL), some (.int c), some (.int (c.fmod 4)), some leaf] _) _
 refine Af (Ba (ax (av (Aa (w_var rfl (Aa (av (Aa (w_var rfl (Aa (w_var rfl (Aa (Ac (af ((Nv (n := n + 58) 11 rfl (by decide)).imp ?_)))))))))))))))
 rintro d s ⟨hd, rfl⟩
 refine af ((lj (n := n + 58) (H1 _) (kwN (ajm hl.1 hd) (by omega) (by decide))).imp ?_)
 rintro d2 s2 ⟨rfl, E2⟩
 have H2 := (H1 _).ex E2
 refine Ac (Gv (Ec .num) (Ec .num) ⟨_, rfl, ?_⟩)
 show (((!decide (kd .num = kd .num)) = true → _) ∧ ((!decide (kd .num = kd .num)) = false → _))
 rw [ajn]
 refine Bg (Ap (Ah (Af (Ba (Ce (El (Aa (w_var rfl (Aa (av (Aa (w_var rfl (Aa (w_var rfl (Aa (Ac (af ((Nv (n := n + 58) 12 rfl (by decide)).imp ?_))))))))))))))))))
 rintro d s ⟨hd, rfl⟩
 refine af ((refused (n := n + 57) (s0 := s) (Ts hl.2 hd 12 (n + 57) (by decide) (by omega) (by omega)) H2 (.refl _)).imp ?_)
 rintro d2 s3 ⟨rfl, E3⟩
 have H3 := H2.ex E3
 refine ⟨true, rfl, mq (Ap (Ah (Af (Ay (av (Aa (w_var rfl (Aa (av (Aa (w_var rfl (Aa (w_var rfl (Aa (ai (Ac (ai (ai (w_var rfl (Ac (cn (by decide) (Ac (bj (by decide) (Em (af ?_)))))))))))))))))))))))))⟩
 have q0 := fm0 (a := c.fdiv 8) (b := 3000) (by decide)
 have q1 := fm1 (a := c.fdiv 8) (b := 3000) (by decide)
 refine (Nv (n := n + 58) (13 + (c.fdiv 8).fmod 3000).toNat (by omega) (by omega)).imp ?_
 rintro d s ⟨hd, rfl⟩
 refine af ((refused (n := n + 57) (s0 := s) (Ts hl.2 hd 12 (n + 57) (by omega) (by omega) (by omega)) H3 (.refl _)).imp ?_)
 rintro d2 s4 ⟨rfl, E4⟩
 exact ⟨rfl, (((E1 _).trans E2).trans E3).trans E4⟩
end
section
variable {FF n : Nat} {st : Sto} {R : Int}
theorem Tt {c : Int} : Wr (C FF (n + 1) 40 [.int c] st) fun d s => ∃ p q, d = .tup [.int p, .int q] ∧ jm p q ∧ Ex st s := by
 refine Bn [some (.int c), none] (b := Ko) rfl rfl (by decide) rfl ?_
 unfold Ko
 refine Af (ba (dg (Aa (ao (Aa (ai (ai (w_var rfl (Ac (bj (by decide) (Ac (cg (Aa (Ac (af ⟨odt rfl, ?_⟩)))))))))))))))
 refine Aa (ao (Aa (ai (ai (Ac (ai (w_var rfl (Ac (bj (by decide) (Ig (by decide) (Ac (cg (Aa (Ac (af ⟨odt rfl, ?_⟩)))))))))))))))
 refine Aa (ao (Aa (ai (Ac (ai (Ac (ai (w_var rfl (Ac (bj (by decide) (Ig (by decide) (Em (Aa (Ac (af ⟨odt rfl, ?_⟩)))))))))))))))
 refine Aa (ao (Aa (ai (w_var rfl (ai (Ac (Ac (Mq (by decide) (bj (by decide) (Aa (Ac (af ⟨odt rfl, af ⟨odt rfl, odt rfl, Ah ?_⟩⟩))))))))))))
 refine Af (Ay (bq (w_var rfl (ai (w_var rfl (Ac (bj (by decide) ?_)))))))
 obtain ⟨d, e, hd⟩ := iy (xs := [D.tup [.int (c.fmod 19 - 9), .int 1], .tup [.int (2 * c.fmod 19 - 19), .int 2], .tup [.int (1 + 3 * c.fmod 7), .int 3], .tup [.int (c.fmod (10 ^ (9 : Int).toNat)), .int 1]]) (i := c.fmod 4) (fm0 (by decide)) (fm1 (by decide))
 refine gc (Dc Br) e ?_
 simp only [List.mem_cons, List.not_mem_nil, or_false] at hd
 rcases hd with rfl | rfl | rfl | rfl
 · exact ⟨_, _, rfl, .inl rfl, .one⟩
 · exact ⟨_, _, rfl, .inr (.inl ⟨rfl, by omega⟩), .one⟩
 · exact ⟨_, _, rfl, .inr (.inr ⟨rfl, by omega⟩), .one⟩
 · exact ⟨_, _, rfl, .inl rfl, .one⟩
def Gr (st : Sto) (b : Kd) (k : Nat) (r : D) (s : Sto) : Prop := ∃ (t : D) (z : Int), r = .tup [t, .int z] ∧ Tr b k t ∧ Ex st s
abbrev Gn (FF m i : Nat) (b : Kd) (k : Nat) (d : Int) : Prop := ∀ (c : Int) (st : Sto), Wr (C FF m i [.int c, .int d] st) (Gr st b k)
theorem pick {xs : List Str} {P : Str → Prop} {i : Int} (h0 : 0 ≤ i) (h1 : i < xs.length) (h : ∀ x ∈ xs, P x) : ∃ x, L2.atI (xs.map D.str) i = some (.str x) ∧ P x := by
 obtain ⟨d, e, hd⟩ := iy (xs := xs.map D.str) h0 (by rw [List.length_map]; exact h1)
 obtain ⟨x, hx, rfl⟩ := List.mem_map.mp hd
 exact ⟨x, e, h x hx⟩
theorem un {k : Kd} {xs : List Str} (h : (xs.all fun x => decide (bp UNK (.str x) = some (kd k))) = true) : ∀ x ∈ xs, bp UNK (.str x) = some (kd k) := fun x hx => odt (List.all_eq_true.mp h x hx)
theorem tu {m k : Nat} {d : Int} (hd : 0 ≤ d) (hT : 1 ≤ d → Gn FF (m + 1) 38 .thing k (d - 1)) (hN : 1 ≤ d → Gn FF (m + 1) 41 .num k (d - 1)) : Gn FF (m + 2) 38 .thing (k + 1) d := by
 intro c st
 refine Bn [some (.int c), some (.int d), none, none, none, none, none] (b := Kn) rfl rfl (by decide) rfl ?_
 unfold Kn
 refine Af (ba (ai (w_var rfl (Ac (bj (by decide) ⟨odt rfl, Ah (Af (ba (ai (w_var rfl (Ac (cn (by decide) ⟨odt rfl, Ah ?_⟩))))))⟩)))))
 show Wr (aj tab (C FF (m + 1)) FF _ [some (.int (c.fdiv 5)), some (.int d), some (.int (c.fmod 5)), none, none, none, none] st) _
 generalize c.fdiv 5 = c'
 generalize c.fmod 5 = f
 refine Af (Ba (Cd (ax (w_var rfl (Ac (Cn ⟨_, rfl, fun _ => bx ?_, fun h0 => ax (w_var rfl (Ac (Gb ⟨_, rfl, fun _ => ?_, fun _ => ?_⟩)))⟩))))))
 iterate 2
  · refine Af (Ay (ao (Aa (ao (Aa (Ac (Aa (bq (dg (Aa (Ac (Aa (Ac (Aa (Ac (af ⟨odt rfl, ai (w_var rfl (Ac (bj (by decide) ?_)))⟩))))))))))))))))
    obtain ⟨x, e, hx⟩ := pick (xs := [Str.ofString "p", Str.ofString "q", Str.ofString "read"]) (i := c'.fmod 3) (fm0 (by decide)) (fm1 (by decide)) (un (k := .thing) (by decide +kernel))
    exact gc (Dc Br) e (af ⟨odt rfl, Aa (ai (w_var rfl (Ac (cn (by decide) (af ⟨odt rfl, _, _, rfl, .unk hx, .one⟩)))))⟩)
 have hd1 : 1 ≤ d := by have := of_decide_eq_false h0; omega
 refine Ap (Ah (Af (Ba (ax (w_var rfl (Ac (Cn ⟨_, rfl, fun _ => ?_, fun _ => ?_⟩)))))))
 · refine Af (Cf (av (Aa (w_var rfl (Aa (ai (w_var rfl (Ac (cg (af ((hT hd1 c' st).imp ?_)))))))))))
   rintro _ s1 ⟨t, z, rfl, ht, E1⟩
   exact ⟨_, rfl, Ah (Af (Ay (ao (Aa (ao (Aa (Ac (Aa (Ac (Aa (ao (Aa (w_var rfl (af ⟨odt rfl, af ⟨odt rfl, Aa (w_var rfl (af ⟨odt rfl, _, _, rfl, .calh ht, E1⟩))⟩⟩))))))))))))))⟩
 refine Ap (Ah (Af (Cf (av (Aa (w_var rfl (Aa (ai (w_var rfl (Ac (cg (af ((hT hd1 c' st).imp ?_)))))))))))))
 rintro _ s1 ⟨u, z1, rfl, hu, E1⟩
 refine ⟨_, rfl, Ah (Af (Cf (av (Aa (w_var rfl (Aa (ai (w_var rfl (Ac (cg (af ((hN hd1 z1 s1).imp ?_))))))))))))⟩
 rintro _ s2 ⟨t, z2, rfl, ht, E2⟩
 refine ⟨_, rfl, Ah (Af (Cf (av (Aa (w_var rfl (Aa (ai (w_var rfl (Ac (cg (af ((hN hd1 z2 s2).imp ?_))))))))))))⟩
 rintro _ s3 ⟨v, z3, rfl, hv, E3⟩
 exact ⟨_, rfl, Ah (Af (Ay (ao (Aa (ao (Aa (Ac (Aa (Ac (Aa (ao (Aa (w_var rfl (Aa (w_var rfl (Aa (w_var rfl (af ⟨odt rfl, af ⟨odt rfl, Aa (w_var rfl (af ⟨odt rfl, _, _, rfl, .calp hu ht hv, (E1.trans E2).trans E3⟩))⟩⟩))))))))))))))))))⟩
theorem Tu {m k : Nat} {d : Int} (hd : 0 ≤ d) (hA : 1 ≤ d → Gn FF (m + 1) 39 .array k (d - 1)) (hN : 1 ≤ d → Gn FF (m + 1) 41 .num k (d - 1)) : Gn FF (m + 2) 39 .array (k + 1) d := by
 intro c st
 refine Bn [some (.int c), some (.int d), none, none, none, none] (b := ko) rfl rfl (by decide) rfl ?_
 unfold ko
 refine Af (ba (ai (w_var rfl (Ac (bj (by decide) ⟨odt rfl, Ah (Af (ba (ai (w_var rfl (Ac (cn (by decide) ⟨odt rfl, Ah ?_⟩))))))⟩)))))
 show Wr (aj tab (C FF (m + 1)) FF _ [some (.int (c.fdiv 3)), some (.int d), some (.int (c.fmod 3)), none, none, none] st) _
 generalize c.fdiv 3 = c'
 generalize c.fmod 3 = f
 refine Af (Ba (Cd (ax (w_var rfl (Ac (Cn ⟨_, rfl, fun _ => bx ?_, fun h0 => ax (w_var rfl (Ac (Cn ⟨_, rfl, fun _ => ?_, fun _ => ?_⟩)))⟩))))))
 iterate 2
  · refine Af (Ay (ao (Aa (ao (Aa (Ac (Aa (bq (dg (Aa (Ac (Aa (Ac (af ⟨odt rfl, ai (w_var rfl (Ac (bj (by decide) ?_)))⟩))))))))))))))
    obtain ⟨x, e, hx⟩ := pick (xs := [Str.ofString "a", Str.ofString "b"]) (i := c'.fmod 2) (fm0 (by decide)) (fm1 (by decide)) (un (k := .array) (by decide +kernel))
    exact gc (Dc Br) e (af ⟨odt rfl, Aa (ai (w_var rfl (Ac (cn (by decide) (af ⟨odt rfl, _, _, rfl, .unk hx, .one⟩)))))⟩)
 have hd1 : 1 ≤ d := by have := of_decide_eq_false h0; omega
 refine Ap (Ah (Af (Cf (av (Aa (w_var rfl (Aa (ai (w_var rfl (Ac (cg (af ((hA hd1 c' st).imp ?_)))))))))))))
 rintro _ s1 ⟨u, z1, rfl, hu, E1⟩
 refine ⟨_, rfl, Ah (Af (Cf (av (Aa (w_var rfl (Aa (ai (w_var rfl (Ac (cg (af ((hN hd1 z1 s1).imp ?_))))))))))))⟩
 rintro _ s2 ⟨t, z2, rfl, ht, E2⟩
 refine ⟨_, rfl, Ah (Af (Cf (av (Aa (w_var rfl (Aa (ai (w_var rfl (Ac (cg (af ((hN hd1 z2 s2).imp ?_))))))))))))⟩
 rintro _ s3 ⟨v, z3, rfl, hv, E3⟩
 exact ⟨_, rfl, Ah (Af (Ay (ao (Aa (ao (Aa (Ac (Aa (w_var rfl (Aa (w_var rfl (Aa (w_var rfl (af ⟨odt rfl, Aa (w_var rfl (af ⟨odt rfl, _, _, rfl, .put hu ht hv, (E1.trans E2).trans E3⟩))⟩))))))))))))))⟩
end
section
variable {FF n : Nat} {st : Sto} {R : Int}
def Tv : Ss := match Io with | .cons _ (.cons _ (.cons _ r)) => r | _ => .nil
theorem Ex.set (h : Ex s s') (hl : s.length ≤ l) : Ex s (s'.set l c) := fun i x e => by
 have := (List.getElem?_eq_some_iff.mp e).1
 rw [List.getElem?_set_ne (by omega)]
 exact h i x e
theorem ajp (h0 : 0 ≤ m) (h1 : m < 4) : ∃ xs, Ef [.int m] = some xs ∧ (xs.length : Int) = m := by
 have : m = 0 ∨ m = 1 ∨ m = 2 ∨ m = 3 := by omega
 rcases this with rfl | rfl | rfl | rfl <;> exact ⟨_, rfl, rfl⟩
theorem Nw {m k : Nat} {d c f : Int} (hf0 : 0 ≤ f) (hf : d = 0 → f < 4) (hd : 0 ≤ d) (hN : 1 ≤ d → Gn FF (m + 1) 41 .num k (d - 1)) (hT : 1 ≤ d → Gn FF (m + 1) 38 .thing k (d - 1)) (hA : 1 ≤ d → Gn FF (m + 1) 39 .array k (d - 1)) :
    Wr (aj tab (C FF (m + 1)) FF Tv [some (.int c), some (.int d), some (.int f), none, none, none, none, none, none, none, none] st) (Kf (Gr st .num (k + 1))) := by
  unfold Tv Io
  refine Af (Ba (ax (w_var rfl (Ac (Gb ⟨_, rfl, fun _ => ?_, fun _ => ?_⟩)))))
  · refine Af (Ay (ao (Aa (ao (Aa (Ac (Aa (bq (dg (Aa (Ac (Aa (Ac (Aa (Ac (Aa (Ac (Aa (Ac (af ⟨odt rfl, ai (w_var rfl (Ac (bj (by decide) ?_)))⟩))))))))))))))))))))
    obtain ⟨x, e, hx⟩ := pick (xs := [Str.ofString "x", Str.ofString "y", Str.ofString "put", Str.ofString "k", Str.ofString "m"]) (i := c.fmod 5) (fm0 (by decide)) (fm1 (by decide)) (un (k := .num) (by decide +kernel))
    exact gc (Dc Br) e (af ⟨odt rfl, Aa (ai (w_var rfl (Ac (cn (by decide) (af ⟨odt rfl, _, _, rfl, .unk hx, .one⟩)))))⟩)
  refine Ap (Ah (Af (Ba (ax (w_var rfl (Ac (Gb ⟨_, rfl, fun _ => ?_, fun h4 => ?_⟩)))))))
  · refine Af (Ay (ao (Aa (ao (Aa (Ac (Aa (av (Aa (ai (w_var rfl (Ac (bj (by decide) (af ((Tt (n := m)).imp ?_)))))))))))))))
    rintro _ s1 ⟨p, q, rfl, hq, E1⟩
    exact af ⟨odt rfl, Aa (ai (w_var rfl (Ac (cn (by decide) (af ⟨odt rfl, _, _, rfl, .num hq, E1⟩)))))⟩
  have h4 := of_decide_eq_false h4
  have hd1 : 1 ≤ d := by
    rcases Int.lt_or_le d 1 with g | g
    · have := hf (by omega); omega
    · exact g
  refine Ap (Ah (Af (Ba (ax (w_var rfl (Ac (Cn ⟨_, rfl, fun _ => ?_, fun _ => ?_⟩)))))))
  · refine Af (Cf (av (Aa (ai (w_var rfl (Ac (cn (by decide) (Aa (ai (w_var rfl (Ac (cg (af ((hN hd1 _ st).imp ?_))))))))))))))
    rintro _ s1 ⟨t, z, rfl, ht, E1⟩
    refine ⟨_, rfl, Ah (Af (Ay (ao (Aa (ao (Aa (Ac (Aa (av (Aa (ai (w_var rfl (Ac (bj (by decide) (af ((Tt (n := m)).imp ?_))))))))))))))))⟩
    rintro _ s2 ⟨p, q, rfl, hq, E2⟩
    exact Aa (w_var rfl (af ⟨odt rfl, Aa (w_var rfl (af ⟨odt rfl, _, _, rfl, .wei hq ht, E1.trans E2⟩))⟩))
  refine Ap (Ah (Af (Ba (ax (w_var rfl (Ac (Cn ⟨_, rfl, fun _ => ?_, fun _ => ?_⟩)))))))
  · refine Af (ba (dg (af ⟨odt rfl, odt rfl, Ah (Af (ba (ai (w_var rfl (Ac (cn (by decide) ⟨odt rfl, Ah ?_⟩))))))⟩)))
    obtain ⟨ys, ey, hy⟩ := ajp (m := c.fmod 4) (fm0 (by decide)) (fm1 (by decide))
    have hy3 : ys.length ≤ 3 := by have := fm1 (a := c) (b := 4) (by decide); omega
    refine Af (ki (Aa (ai (w_var rfl (Ac (bj (by decide) (af ⟨ys, ey, ?_⟩)))))))
    refine jg (fun j env s => (∃ (z : Int) (e6 e7 : Option D), env = [some (.int c), some (.int d), some (.int f), none, some (.int z), some (.loc st.length), e6, e7, none, none, none]) ∧ (∃ ts : List D, s[st.length]? = some (.lst ts) ∧ ts.length = j ∧ ∀ t ∈ ts, Tr .num k t) ∧ Ex st s) (fun _ _ _ _ => rfl) ⟨⟨_, _, _, rfl⟩, ⟨[], Br, rfl, by simp⟩, .one⟩ ?_ ?_
    · rintro j x hx env s ⟨⟨z, e6, e7, rfl⟩, ⟨ts, g, hl, ht⟩, E⟩
      have hj := (List.getElem?_eq_some_iff.mp hx).1
      refine Jf (env' := [some (.int c), some (.int d), some (.int f), none, some (.int z), some (.loc st.length), some x, e7, none, none, none]) rfl ?_
      refine Af (Cf (av (Aa (w_var rfl (Aa (ai (w_var rfl (Ac (cg (af ((hN hd1 z s).imp ?_)))))))))))
      rintro _ s1 ⟨t, z1, rfl, ht1, E1⟩
      have g1 := E1.at g
      refine ⟨_, rfl, Ah (Af (ig (Mp (w_var rfl ⟨aal g1, Aa (w_var rfl (af (aaj g1 (Nat.lt_of_lt_of_le (by omega : ts.length < 10) (by decide)) (Ah (Ap ⟨_, rfl, ⟨_, _, _, rfl⟩, ⟨ts ++ [t], ?_, by simp [hl], ?_⟩, (E.trans E1).set (Nat.le_refl _)⟩)))))⟩))))⟩
      · rw [List.getElem?_set_self (List.getElem?_eq_some_iff.mp g1).1]
      · intro u hu
        rcases List.mem_append.mp hu with h | h
        · exact ht u h
        · rw [List.mem_singleton.mp h]; exact ht1
    · rintro env s ⟨⟨z, e6, e7, rfl⟩, ⟨ts, g, hl, ht⟩, E⟩
      exact Ah (Af (Ay (ao (Aa (ao (Aa (Ac (Aa (cw (Aa (w_var rfl (af (aai (show dq s (.loc st.length) = some ts by simp only [dq, Dc g]) (af ⟨odt rfl, Aa (w_var rfl (af ⟨odt rfl, _, _, rfl, .plu (by omega) ht, E⟩))⟩))))))))))))))
  refine Ap (Ah (Af (Ba (ax (w_var rfl (Ac (Cn ⟨_, rfl, fun _ => ?_, fun _ => ?_⟩)))))))
  · refine Af (Cf (av (Aa (w_var rfl (Aa (ai (w_var rfl (Ac (cg (af ((hA hd1 c st).imp ?_)))))))))))
    rintro _ s1 ⟨a, z1, rfl, ha, E1⟩
    refine ⟨_, rfl, Ah (Af (Cf (av (Aa (w_var rfl (Aa (ai (w_var rfl (Ac (cg (af ((hN hd1 z1 s1).imp ?_))))))))))))⟩
    rintro _ s2 ⟨t, z2, rfl, ht, E2⟩
    exact ⟨_, rfl, Ah (Af (Ay (ao (Aa (ao (Aa (Ac (Aa (w_var rfl (Aa (w_var rfl (af ⟨odt rfl, Aa (w_var rfl (af ⟨odt rfl, _, _, rfl, .rea ha ht, E1.trans E2⟩))⟩))))))))))))⟩
  refine Ap (Ah (Af (Cf (av (Aa (ai (w_var rfl (Ac (cn (by decide) (Aa (ai (w_var rfl (Ac (cg (af ((hN hd1 _ st).imp ?_))))))))))))))))
  rintro _ s1 ⟨t, z1, rfl, ht, E1⟩
  refine ⟨_, rfl, Ah (Af (Cf (av (Aa (w_var rfl (Aa (ai (w_var rfl (Ac (cg (af ((hT hd1 z1 s1).imp ?_))))))))))))⟩
  rintro _ s2 ⟨u, z2, rfl, hu, E2⟩
  refine ⟨_, rfl, Ah (Af (Ay (ao (Aa (bq (dg (Aa (ao (Aa (Ac (Aa (Ac (Aa (ao (Aa (w_var rfl (af ⟨odt rfl, af ⟨odt rfl, ?_⟩⟩)))))))))))))))))⟩
  refine Aa (ao (Aa (Ac (Aa (Ac (Aa (ao (Aa (w_var rfl (Aa (w_var rfl (af ⟨odt rfl, af ⟨odt rfl, af ⟨odt rfl, ai (w_var rfl (Ac (bj (by decide) ?_)))⟩⟩⟩))))))))))))
  obtain ⟨y, e, hy⟩ := iy (xs := [D.tup [W "call", W "f", .tup [t]], .tup [W "call", W "g", .tup [t, u]]]) (i := z2.fmod 2) (fm0 (by decide)) (fm1 (by decide))
  have hy : Tr .num (k + 1) y := by
    simp only [List.mem_cons, List.not_mem_nil, or_false] at hy
    rcases hy with rfl | rfl
    · exact .calf ht
    · exact .calg ht hu
  exact gc (Dc Br) e (Aa (ai (w_var rfl (Ac (cn (by decide) (af ⟨odt rfl, _, _, rfl, hy, (E1.trans E2).trans .one⟩))))))
theorem tw {m k : Nat} {d : Int} (hd : 0 ≤ d) (hN : 1 ≤ d → Gn FF (m + 1) 41 .num k (d - 1)) (hT : 1 ≤ d → Gn FF (m + 1) 38 .thing k (d - 1)) (hA : 1 ≤ d → Gn FF (m + 1) 39 .array k (d - 1)) : Gn FF (m + 2) 41 .num (k + 1) d := by
 intro c st
 refine Bn [some (.int c), some (.int d), none, none, none, none, none, none, none, none, none] (b := Io) rfl rfl (by decide) rfl ?_
 unfold Io
 refine Af (ba (ai (w_var rfl (Ac (bj (by decide) ⟨odt rfl, Ah (Af (ba (ai (w_var rfl (Ac (cn (by decide) ⟨odt rfl, Ah ?_⟩))))))⟩)))))
 show Wr (aj tab (C FF (m + 1)) FF _ [some (.int (c.fdiv 8)), some (.int d), some (.int (c.fmod 8)), none, none, none, none, none, none, none, none] st) _
 have f0 := fm0 (a := c) (b := 8) (by decide)
 have f1 := fm1 (a := c) (b := 8) (by decide)
 refine Af (Ba (aad (ax (w_var rfl (Ac (Cn ⟨_, rfl, fun g => ?_, fun g => ?_⟩))))))
 · have g := odt g
   refine ax (w_var rfl (Ac (aaf ⟨_, rfl, fun g2 => ?_, fun g2 => ?_⟩)))
   · have g2 := odt g2
     refine Af (ba (ai (w_var rfl (Ac (cg ⟨odt rfl, Ah (Ap (Ah ?_))⟩)))))
     exact Nw (by omega) (fun _ => by omega) hd hN hT hA
   · have g2 := of_decide_eq_false g2
     exact Ap (Ah (Nw f0 (fun _ => by omega) hd hN hT hA))
 · have g := of_decide_eq_false g
   exact Bg (Ap (Ah (Nw f0 (fun h => absurd h g) hd hN hT hA)))
theorem gens : ∀ (k : Nat), (∀ d : Int, 0 ≤ d → d ≤ k → Gn FF (n + k + 2) 41 .num (k + 1) d) ∧ (∀ d : Int, 0 ≤ d → d ≤ k → Gn FF (n + k + 2) 38 .thing (k + 1) d) ∧ (∀ d : Int, 0 ≤ d → d ≤ k → Gn FF (n + k + 2) 39 .array (k + 1) d)
 | 0 => ⟨fun d h0 hd => tw h0 (fun g => by omega) (fun g => by omega) (fun g => by omega), fun d h0 hd => tu h0 (fun g => by omega) (fun g => by omega), fun d h0 hd => Tu h0 (fun g => by omega) (fun g => by omega)⟩
 | k + 1 => by
  obtain ⟨i1, i2, i3⟩ := gens k
  exact ⟨fun d h0 hd => tw (m := n + (k + 1)) h0 (fun _ => i1 (d - 1) (by omega) (by omega)) (fun _ => i2 (d - 1) (by omega) (by omega)) (fun _ => i3 (d - 1) (by omega) (by omega)), fun d h0 hd => tu (m := n + (k + 1)) h0 (fun _ => i2 (d - 1) (by omega) (by omega)) (fun _ => i1 (d - 1) (by omega) (by omega)), fun d h0 hd => Tu (m := n + (k + 1)) h0 (fun _ => i3 (d - 1) (by omega) (by omega)) (fun _ => i1 (d - 1) (by omega) (by omega))⟩
theorem digits {c : Int} : Wr (C FF (n + 1) 36 [.int c] st) fun d s => (∃ z, d = .int z) ∧ s = st := by
 refine Bn [some (.int c), none, none, none] (b := Km) rfl rfl (by decide) rfl ?_
 unfold Km
 refine Af (Ba (ax (w_var rfl (ai (Ac (Ac (Mq (by decide) (Qy ⟨_, rfl, fun _ => ?_, fun _ => ?_⟩))))))))
 · exact Af (Ay (ai (w_var rfl (ai (Ac (Ac (Mq (by decide) (cg ⟨⟨_, rfl⟩, rfl⟩))))))))
 refine Ap (Ah (Af (ba (Ac ⟨odt rfl, Ah (Af (ba (ai (ai (w_var rfl (Ac (bj (by decide) (Ac (Em ⟨odt rfl, Ah (Af (ki (Aa (Ac (af ⟨_, rfl, ?_⟩)))))⟩)))))))))⟩))))
 have b0 := fm0 (a := c) (b := 2147483647) (by decide)
 have b1 := fm1 (a := c) (b := 2147483647) (by decide)
 refine jg (fun j env s => (∃ (u v : Int) (e : Option D), env = [some (.int c), some (.int u), some (.int v), e] ∧ 0 ≤ v ∧ v < 2147483647 + 48271) ∧ s = st) (fun _ _ _ _ => rfl) ⟨⟨_, _, _, rfl, by omega, by omega⟩, rfl⟩ ?_ ?_
 · rintro j x hx env s ⟨⟨u, v, e, rfl, v0, v1⟩, rfl⟩
   obtain ⟨i, rfl, hi⟩ : ∃ i : Int, x = .int i ∧ (0 ≤ i ∧ i < 40) := by
    have hm := List.mem_of_getElem? hx
    obtain ⟨q, hq, rfl⟩ := List.mem_map.mp hm
    exact ⟨_, rfl, by have := List.mem_range.mp hq; simp at this; omega⟩
   refine Jf (env' := [some (.int c), some (.int u), some (.int v), some (.int i)]) rfl ?_
   refine Af (ba (ai (ai (ai (ai (w_var rfl (w_var rfl (Ig ⟨by omega, by omega⟩ (ai (Ac (w_var rfl (Ig (by decide) (Em (ai (ai (Ac (w_var rfl (Ig (by decide) (w_var rfl (qy ⟨by omega, by omega⟩ (Em (Ac (bj (by decide) ⟨odt rfl, Ah ?_⟩)))))))))))))))))))))))
   generalize hw : Int.fmod _ 2147483647 = w
   have w0 : 0 ≤ w := by rw [← hw]; exact fm0 (by decide)
   have w1 : w < 2147483647 := by rw [← hw]; exact fm1 (by decide)
   refine Af (ba (ai (ai (w_var rfl (ai (ai (w_var rfl (Ac (cn (by decide) (Ac (Em (Ig ⟨by omega, by omega⟩ (Ac (bj (by decide) ⟨odt rfl, Ah ?_⟩))))))))))))))
   generalize hv : Int.fmod _ 2147483647 = y
   have y0 : 0 ≤ y := by rw [← hv]; exact fm0 (by decide)
   have y1 : y < 2147483647 := by rw [← hv]; exact fm1 (by decide)
   exact Af (ba (ai (ai (w_var rfl (Ac (qy (by decide) (w_var rfl (Em ⟨odt rfl, Ah (Ap ⟨_, rfl, ⟨_, _, _, rfl, y0, by omega⟩, rfl⟩)⟩))))))))
 · rintro env s ⟨⟨u, v, e, rfl, v0, v1⟩, rfl⟩
   exact Ah (Af (Ay (w_var rfl ⟨⟨_, rfl⟩, rfl⟩)))
theorem Iy {ns : List Int} {i : Int} (h0 : 0 ≤ i) (h : st[0]? = some (.frz (ns.map .int))) : Wr (C FF (n + 1) 35 [.loc 0, .int i] st) fun d s => (∃ z, d = .int z) ∧ s = st := by
 have hl : Az st 0 = some (ns.map .int) := by simp only [Az, h]
 refine Bn [some (.loc 0), some (.int i)] (b := km) rfl rfl (by decide) rfl ?_
 unfold km
 refine Af (Ba (ax (w_var rfl (cw (Aa (w_var rfl (af (aah hl (Gb ⟨_, rfl, fun g => ?_, fun _ => ?_⟩)))))))))
 · have g := odt g
   obtain ⟨d, e, hd⟩ := iy h0 g
   obtain ⟨z, _, rfl⟩ := List.mem_map.mp hd
   exact Af (Ay (bq (w_var rfl (w_var rfl (gc hl e ⟨⟨_, rfl⟩, rfl⟩)))))
 · exact Ap (Ah (Af (Ay (Ac ⟨⟨_, rfl⟩, rfl⟩))))
end
section
variable {n : Nat} {st : Sto}
abbrev LE (num thing arr : D) (v2 e6 e7 e8 : Option D) : DD.Env := [some (.loc 0), some (.loc NL), v2, some num, some thing, some arr, e6, e7, e8]
def Tw : Ss := match ip with | .cons _ (.cons _ (.cons _ (.cons _ (.cons _ (.cons _ (.cons (.forS _ _ _ _ b) _)))))) => b | _ => .nil
theorem ajq (H : Has st) (hn : Tr .num 4 num) (ht : Tr .thing 4 thing) (ha : Tr .array 4 arr) : Wr (aj tab (C 300 60) 300 Tw (LE num thing arr v2 e6 (some (.int c)) e8) st) fun f s => ∃ e, f = .next (LE num thing arr v2 e6 (some (.int c)) e) ∧ Ex st s := by
 unfold Tw ip
 refine Af (ba (av (Aa (w_var rfl (Aa (w_var rfl (Aa (w_var rfl (Aa (w_var rfl (af ((ajj (n := 59)).imp ?_))))))))))))
 rintro w s1 ⟨l1, l2, l3, l4, x1, x2, x3, x4, hw, g1, g2, g3, g4, E1⟩
 have hB : B 295 18 5 s1 w := aje hn ht ha g1 g2 g3 g4 w hw
 have H1 := H.ex E1
 refine ⟨odt rfl, Ah ?_⟩
 show Wr (aj tab (C 300 60) 300 _ (LE num thing arr v2 e6 (some (.int c)) (some w)) s1) _
 refine Af (Ba (Ce (El (Aa (w_var rfl (Aa (w_var rfl (af ((refused (FF := 300) (n := 58) (toK (FF := 295) hB (by decide) (by decide)) H1 (.refl _)).imp ?_)))))))))
 rintro _ s2 ⟨rfl, E2⟩
 refine ⟨true, rfl, mq (Ap (Ah (Af (ba (av (Aa (w_var rfl (Aa (w_var rfl (Aa (w_var rfl (Aa (ai (w_var rfl (Ac (cn (by decide) (af ((To (n := 59)).imp ?_))))))))))))))))))⟩
 rintro w2 s ⟨hr, rfl⟩
 have hB2 : B 295 24 7 s1 w2 := Tp hn ha hB (by decide) (by decide) hr
 refine ⟨odt rfl, Ah ?_⟩
 show Wr (aj tab (C 300 60) 300 _ (LE num thing arr v2 e6 (some (.int c)) (some w2)) s) _
 refine Af (Ba (Ce (El (Aa (w_var rfl (Aa (av (Aa (w_var rfl (Aa (w_var rfl (Aa (w_var rfl (Aa (ai (w_var rfl (Ac (cn (by decide) (af ((To (n := 59)).imp ?_))))))))))))))))))))
 rintro w3 s3 ⟨hr3, hs⟩
 have hB3 : B 295 30 9 s1 w3 := Tp hn ha hB2 (by decide) (by decide) hr3
 rw [hs]
 refine af ((refused (FF := 300) (n := 58) (toK (FF := 295) hB3 (by decide) (by decide)) (H1.ex E2) E2).imp ?_)
 rintro _ s4 ⟨rfl, E4⟩
 exact ⟨true, rfl, mq (Ap (Ah (Ap ⟨_, rfl, (E1.trans E2).trans E4⟩)))⟩
theorem Nx (h : w = kd b) : (!decide (kd b = w)) = false := by subst h; simp
theorem ajr {ns : List Int} (hns : ns.length ≤ 63) : Wr (C 300 61 47 [.loc 0] [.frz (ns.map .int)]) fun d _ => d = .bl true := by
 refine Bn [some (.loc 0), none, none, none, none, none, none, none, none] (b := ip) rfl rfl (by decide) rfl ?_
 unfold ip
 refine Af (ba (av (af (Bi (ahq (FF := 300) (n := 51) (X := ns.map .int)) ⟨odt rfl, Ah ?_⟩))))
 have H0 : Has (STO (ns.map .int)) := ⟨ahs, aht, ahu⟩
 have F0 : (STO (ns.map .int))[0]? = some (.frz (ns.map .int)) := ahr
 generalize STO (ns.map .int) = s0 at H0 F0 ⊢
 refine Af (ba (av (Aa (av (Aa (w_var rfl (Aa (Ac (af ((Iy (n := 59) (by decide) F0).imp ?_))))))))))
 rintro _ s ⟨⟨z0, rfl⟩, rfl⟩
 refine af ((digits (n := 59)).imp ?_)
 rintro _ s' ⟨⟨z1, rfl⟩, rfl⟩
 refine ⟨odt rfl, Ah ?_⟩
 show Wr (aj tab (C 300 60) 300 _ [some (.loc 0), some (.loc NL), some (.int z1), none, none, none, none, none, none] _) _
 refine Af (Cf (av (Aa (w_var rfl (Aa (ai (Ac (ai (av (Aa (w_var rfl (Aa (Ac (af ((Iy (n := 59) (by decide) F0).imp ?_)))))))))))))))
 rintro _ s ⟨⟨z2, rfl⟩, rfl⟩
 refine Ac (bj (by decide) (Em (af (((gens (FF := 300) (n := 55) 3).1 (1 + z2.fmod 3) (by have := fm0 (a := z2) (b := 3) (by decide); omega) (by have := fm1 (a := z2) (b := 3) (by decide); omega) _ _).imp ?_))))
 rintro _ s1 ⟨num, z3, rfl, hn, E1⟩
 have H1 := H0.ex E1
 have F1 := E1.at F0
 refine ⟨_, rfl, Ah ?_⟩
 show Wr (aj tab (C 300 60) 300 _ [some (.loc 0), some (.loc NL), some (.int z3), some num, none, none, none, none, none] _) _
 refine Af (Cf (av (Aa (w_var rfl (Aa (ai (Ac (ai (ai (av (Aa (w_var rfl (Aa (Ac (af ((Iy (n := 59) (by decide) F1).imp ?_))))))))))))))))
 rintro _ s ⟨⟨z4, rfl⟩, rfl⟩
 refine Ac (cn (by decide) (Ac (bj (by decide) (Em (af (((gens (FF := 300) (n := 55) 3).2.1 (1 + (z4.fdiv 3).fmod 2) (by have := fm0 (a := z4.fdiv 3) (b := 2) (by decide); omega) (by have := fm1 (a := z4.fdiv 3) (b := 2) (by decide); omega) _ _).imp ?_))))))
 rintro _ s2 ⟨thing, z5, rfl, ht, E2⟩
 have H2 := H1.ex E2
 have F2 := E2.at F1
 refine ⟨_, rfl, Ah ?_⟩
 show Wr (aj tab (C 300 60) 300 _ [some (.loc 0), some (.loc NL), some (.int z5), some num, some thing, none, none, none, none] _) _
 refine Af (Cf (av (Aa (w_var rfl (Aa (ai (Ac (ai (ai (av (Aa (w_var rfl (Aa (Ac (af ((Iy (n := 59) (by decide) F2).imp ?_))))))))))))))))
 rintro _ s ⟨⟨z6, rfl⟩, rfl⟩
 refine Ac (cn (by decide) (Ac (bj (by decide) (Em (af (((gens (FF := 300) (n := 55) 3).2.2 (1 + (z6.fdiv 6).fmod 2) (by have := fm0 (a := z6.fdiv 6) (b := 2) (by decide); omega) (by have := fm1 (a := z6.fdiv 6) (b := 2) (by decide); omega) _ _).imp ?_))))))
 rintro _ s3 ⟨arr, z7, rfl, ha, E3⟩
 have H3 := H2.ex E3
 have F3 := E3.at F2
 refine ⟨_, rfl, Ah ?_⟩
 show Wr (aj tab (C 300 60) 300 _ (LE num thing arr (some (.int z7)) none none none) _) _
 have kn4 : ∀ {s : Sto}, Has s → Wr (C 300 60 5 [.loc NL, num] s) fun d s' => d = kd .num ∧ Ex s s' := fun h => lj (n := 59) h (kwN (FF := 295) hn (by decide) (by decide))
 have kt4 : ∀ {s : Sto}, Has s → Wr (C 300 60 5 [.loc NL, thing] s) fun d s' => d = kd .thing ∧ Ex s s' := fun h => lj (n := 59) h (kwN (FF := 295) ht (by decide) (by decide))
 have ka4 : ∀ {s : Sto}, Has s → Wr (C 300 60 5 [.loc NL, arr] s) fun d s' => d = kd .array ∧ Ex s s' := fun h => lj (n := 59) h (kwN (FF := 295) ha (by decide) (by decide))
 clear E1 E2 E3 H1 H2 F1 F2
 refine Af (ki (Aa (Ac (af ⟨_, rfl, ?_⟩))))
 refine jg (fun j env s => (∃ e6, env = LE num thing arr (some (.int z7)) e6 none none) ∧ Ex s3 s) (fun _ _ _ _ => rfl) ⟨⟨_, rfl⟩, .refl _⟩ ?_ ?_
 · rintro j x hx env s ⟨⟨e6, rfl⟩, E⟩
   refine Jf (env' := LE num thing arr (some (.int z7)) (some x) none none) rfl ?_
   refine Af (Ba (Cd (ax (av (Aa (w_var rfl (Aa (w_var rfl (af ((kn4 (H3.ex E)).imp ?_))))))))))
   rintro d s4 ⟨rfl, E4⟩
   refine Ac (Gv (Ec .num) (by decide +kernel) ⟨_, rfl, ?_⟩)
   rw [Nx (b := .num) (w := .str (Str.ofString "num")) rfl]
   refine Bg (Cd (ax (av (Aa (w_var rfl (Aa (w_var rfl (af ((kt4 ((H3.ex E).ex E4)).imp ?_)))))))))
   rintro d s5 ⟨rfl, E5⟩
   refine Ac (Gv (Ec .thing) (by decide +kernel) ⟨_, rfl, ?_⟩)
   rw [Nx (b := .thing) (w := .str (Str.ofString "thing")) rfl]
   refine Bg (ax (av (Aa (w_var rfl (Aa (w_var rfl (af ((ka4 (((H3.ex E).ex E4).ex E5)).imp ?_))))))))
   rintro d s6 ⟨rfl, E6⟩
   refine Ac (Gv (Ec .array) (by decide +kernel) ⟨_, rfl, ?_⟩)
   rw [Nx (b := .array) (w := .str (Str.ofString "array")) rfl]
   exact Bg (Ap (Ah (Ap ⟨_, rfl, ⟨_, rfl⟩, ((E.trans E4).trans E5).trans E6⟩)))
 rintro env s4 ⟨⟨e6, rfl⟩, E4⟩
 have H4 := H3.ex E4
 have F4 := E4.at F3
 have L4 : Az s4 0 = some (ns.map .int) := by simp only [Az, F4]
 have hc : (cutD (ns.map D.int) (some 2) (some 6)).length ≤ 63 := by unfold cutD; simp; omega
 have ci : ∀ d ∈ cutD (ns.map D.int) (some 2) (some 6), ∃ i, d = D.int i := by
  intro d hd
  unfold cutD at hd
  obtain ⟨i, _, rfl⟩ := List.mem_map.mp (List.mem_of_mem_drop (List.mem_of_mem_take hd))
  exact ⟨i, rfl⟩
 refine Ah (Af (aae (ai (gv (w_var rfl (Fz (Ac ⟨2, rfl, Fz (Ac ⟨6, rfl, Gu (aak (lo := some 2) (hi := some 6) rfl L4 ?_)⟩)⟩)))))))
 generalize cutD (ns.map D.int) (some 2) (some 6) = xs at hc ci ⊢
 have F5 : (s4 ++ [Cell.lst xs])[0]? = some (.frz (ns.map .int)) := Ex.one _ _ F4
 refine dg (Aa (av (Aa (w_var rfl (Aa (Ac (af ((Iy (n := 59) (by decide) F5).imp ?_))))))))
 rintro _ s ⟨⟨z8, rfl⟩, hs⟩
 rw [hs]
 refine af ⟨odt rfl, jh (Ex.one _ _ Br) Br (Nat.le_trans (Nat.add_le_add_right hc 1) (by decide)) ?_⟩
 have H6 : Has (s4 ++ [Cell.lst xs] ++ [Cell.lst [D.int z8]] ++ [Cell.lst (xs ++ [D.int z8])]) := ((H4.ex .one).ex .one).ex .one
 have F6 : (s4 ++ [Cell.lst xs] ++ [Cell.lst [D.int z8]] ++ [Cell.lst (xs ++ [D.int z8])])[0]? = some (.frz (ns.map .int)) := Ex.one _ _ (Ex.one _ _ F5)
 have g6 : (s4 ++ [Cell.lst xs] ++ [Cell.lst [D.int z8]] ++ [Cell.lst (xs ++ [D.int z8])])[(s4 ++ [Cell.lst xs] ++ [Cell.lst [D.int z8]]).length]? = some (.lst (xs ++ [D.int z8])) := Br
 generalize (s4 ++ [Cell.lst xs] ++ [Cell.lst [D.int z8]]).length = l6 at g6 ⊢
 generalize (s4 ++ [Cell.lst xs] ++ [Cell.lst [D.int z8]] ++ [Cell.lst (xs ++ [D.int z8])] : Sto) = s6 at g6 H6 F6 ⊢
 refine ⟨xs ++ [D.int z8], some l6, ?_, ?_⟩
 · simp only [gr, Bool.false_eq_true, if_false, Dc g6]; rfl
 refine jg (fun j env s => (∃ e7 e8, env = LE num thing arr (some (.int z7)) e6 e7 e8) ∧ Ex s6 s) (fun i env s h => decide_eq_true (Dc (h.2.at g6))) ⟨⟨_, _, rfl⟩, .refl _⟩ ?_ ?_
 · rintro j d hd env s ⟨⟨e7, e8, rfl⟩, E⟩
   have : ∃ c, d = .int c := by
    rcases List.mem_append.mp (List.mem_of_getElem? hd) with h | h
    · exact ci d h
    · exact ⟨z8, List.mem_singleton.mp h⟩
   obtain ⟨c, rfl⟩ := this
   refine Jf (env' := LE num thing arr (some (.int z7)) e6 (some (.int c)) e8) rfl ?_
   refine (ajq (H6.ex E) hn ht ha).imp ?_
   rintro f s7 ⟨e, rfl, E7⟩
   exact ⟨_, rfl, ⟨_, _, rfl⟩, E.trans E7⟩
 rintro env s7 ⟨⟨e7, e8, rfl⟩, E7⟩
 have H7 := H6.ex E7
 have F7 := E7.at F6
 refine Ah (Af (Ay (w_and (kh (av (Aa (w_var rfl (Aa (w_var rfl (af ((kn4 H7).imp ?_)))))))))))
 rintro d s8 ⟨rfl, E8⟩
 refine Ac (aag (Ec .num) (by decide +kernel) ⟨_, rfl, ?_⟩)
 rw [show decide (kd .num = .str (Str.ofString "num")) = true from decide_eq_true rfl]
 refine bx (av (Aa (w_var rfl (Aa (av (Aa (w_var rfl (Aa (Ac (af ((Iy (n := 59) (by decide) (E8.at F7)).imp ?_)))))))))))
 rintro _ s ⟨⟨z9, rfl⟩, hs⟩
 rw [hs]
 refine af ((ajo (FF := 295) (n := 0) (H7.ex E8)).imp ?_)
 rintro d s9 ⟨rfl, _⟩
 rfl
end
abbrev calls : Nat := 61
theorem ajs : ∀ ns : List Int, ns.length ≤ 63 → ∃ FF st, Np FF calls [.loc 0] [.frz (ns.map D.int)] = .ok (.bl true) st := fun ns h => by
 obtain ⟨d, s, e, rfl⟩ := ajr h
 exact ⟨300, s, e⟩
end My
open PySem PySem.W PyProof.Rows
set_option maxRecDepth 100000 in
set_option maxHeartbeats 0 in
theorem PySem.Challenge.cw_partproof_k04_kinds_of_terms_holds : PySem.Challenge.rw_partproof_k04_kinds_of_terms.Holds := by
 refine holds_law (by kernel_rfl) fun said => holds_open (XP := XL HD.q []) (YP := InK HD.Kf) HD.hl HD.H.of HD.H.keeps (fun s e => xl_of s (Bool.and_eq_true_iff.mp e).1) XL.keeps (by rfl) (by rfl) (by rfl) (fun s e => recFacts_of (Bool.and_eq_true_iff.mp e).2) (by rfl) said (by decide +kernel) ⟨rfl, rfl, rfl, rfl, rfl, by decide +kernel⟩ ?hw ?hc
 case hw => w_witness2
 k_fill
 refine My.walk (n := My.calls) (l := PySem.Challenge.rw_partproof_k04_kinds_of_terms) rfl rfl rfl ⟨rfl, by decide, by decide⟩ (fun _ _ Y => Y) ?lawTop ?lawEnd
 case lawTop =>
  intro w mg h KX G
  refine' My.ahn w KX G ?_ ?_ ?_ ?_ ?_ ?_ ?_ ?_ ?_ ?_ ?_ ?_ ?_ ?_ ?_ ?_ ?_ ?_ ?_ ?_ ?_ ?_ ?_ ?_ ?_ ?_ ?_ ?_ ?_ ?_ ?_ ?_ ?_ ?_ ?_ ?_ ?_ ?_ ?_ ?_ ?_ ?_ ?_ ?_ ?_ ?_ ?_ ?_ ?_ ?_ ?_ ?_ ?_ ?_ ?_ ?_ ?_ ?_ ?_ ?_ ?_ ?_ ?_ ?_ ?_ ?_ ?_ ?_ ?_ ?_ ?_ ?_ ?_ ?_ ?_ ?_ ?_ ?_ ?_ ?_ ?_ ?_ ?_ ?_ ?_ ?_ ?_ ?_ ?_ ?_ ?_ ?_ ?_ ?_ ?_ ?_ ?_ ?_ ?_ ?_ ?_ ?_ ?_ ?_ ?_ ?_ ?_ ?_ ?_ ?_ ?_ ?_ ?_ ?_ ?_ ?_ ?_ ?_ ?_ ?_ ?_ ?_ ?_ ?_ ?_ ?_ ?_ ?_ ?_ ?_ ?_ ?_ ?_ ?_ ?_ ?_ ?_ ?_ ?_ ?_ ?_ ?_ ?_ ?_ ?_ ?_ ?_ ?_ ?_ ?_ ?_ ?_ ?_ ?_ ?_ ?_ ?_ ?_ ?_ ?_ ?_ ?_ ?_ ?_ ?_ ?_ ?_ ?_ ?_ ?_ ?_ ?_ ?_ ?_ ?_ ?_ ?_ ?_ ?_ ?_ ?_ ?_ ?_ ?_ ?_ ?_ ?_ ?_ ?_ ?_ ?_ ?_ ?_ ?_ ?_ ?_ ?_ ?_ ?_ ?_ ?_ ?_ ?_ ?_ ?_ ?_ ?_ ?_ ?_ ?_ ?_ ?_ ?_ ?_ ?_ ?_ ?_ ?_ ?_ ?_ ?_ ?_ ?_ ?_ ?_ ?_ ?_ ?_ ?_ ?_ ?_ ?_ ?_ ?_ ?_ ?_ ?_ ?_ ?_ ?_ ?_ ?_ ?_ ?_ ?_ ?_ ?_ ?_ ?_
  any_goals k_is
  any_goals first | k_exc | kit_is | kts_exm | rfl
 case lawEnd => exact My.ajs
