import PyProof.Rows.All
import Wide.All
import OpenK.AllK
import Wide.FinOn
import Lean
import PyProof.EqAt
import PyProof.EqKinds
import PyProof.TupleCall
import PyProof.NsDelKeeps
import PyProof.DictWalks
import KE.KEqDict
import KE.KDictLaws
import KE.KDictList
import PyProof.Rows.SetFrom
import PyProof.WalksEnum
import PyProof.LayNew
import PyProof.Rows.EnumRows
import PyProof.DictItems
import PyProof.Rows.ZipGen
import KE.KTab
import PySem.Challenge.RW_partproof_k41_hits_misses_needs
set_option Elab.async false
set_option linter.all false
set_option maxRecDepth 100000
set_option maxHeartbeats 4000000
noncomputable section
namespace HD
open PySem PySem.W PyProof.Rows
def go (ok : Thread → Bool) (st : SharedT → Thread → Option (SharedT × Thread)) (n : Nat) : SharedT → Thread → Option SharedT :=
 Nat.rec (fun _ _ => none) (fun _ ih s t => match through t with
  | true => some s
  | false => match ok t with
   | false => none
   | true => match st s t with
    | some (s, t) => ih s t
    | none => none) n
theorem gr {tb p w a b} : ∀ (n : Nat) (s t s'), go (stepOk a b) (stepT (denote tb) p w) n s t = some s' → topRun tb p w a b n s.abs t = some s'.abs
 | 0, _, _, _, h => by cases h
 | n + 1, s, t, s', h => by
  have h : (match through t with
   | true => some s
   | false => match stepOk a b t with
    | false => none
    | true => match stepT (denote tb) p w s t with
     | some (s, t) => go (stepOk a b) (stepT (denote tb) p w) n s t
     | none => none) = some s' := h
  unfold topRun
  revert h
  cases through t with
  | true => intro h; cases h; rfl
  | false => cases stepOk a b t with
   | false => intro h; cases h
   | true =>
    dsimp only
    cases e : stepT (denote tb) p w s t with
    | none => intro h; cases h
    | some r => intro h; rw [stepT_spec e]; exact gr n r.1 r.2 s' h
def S0 (w : World) (os : OsState) : SharedT := ⟨(boot_heap w.params).objs.toList.zipIdx.foldl (fun t x => t.ins x.2 x.1) .nil, 11, (boot_heap w.params).life, #[], boot_drawn, boot_toks, os⟩
theorem s0 (w os) : (S0 w os).abs = ⟨boot_heap w.params, #[], boot_drawn, boot_toks, os⟩ := by kernel_rfl
theorem bs (w : World) : ((boot_heap w.params).isNs mainGlobals && (#[] : Array GenState).size == 0, (boot_heap w.params).objs.size, (boot_heap w.params).nsMap mainGlobals "__annotations__") = (true, 11, some (.ref 6)) := by kernel_rfl
abbrev run (p : Program) (N : Nat) (w : World) (os : OsState) := go (Fast.tw6613529449190102663 11 (some (.ref 6))) (Fast.tw10156331382660048174 (Fast.tw11892475500146522536 Fast.tw14364793385576792824) p w) N (S0 w os) (topStub p)
abbrev Is {α : Type} (p : Program) (N : Nat) (w : World) (f : Shared → α) (a : α) : Prop := ∀ os, (run p N w os).map (fun s => f s.abs) = some a
abbrev Ends (p : Program) (w : World) (s : Shared) := staticsOk (importedModules p.main.body) (boot_heap w.params) s.heap && namesBound p s.heap && gensDone s && laidKept (boot_heap w.params) s.heap
theorem left {α : Type} {p q loose Xt N} {Yf : Shared → α} {Ya} (e : opening p = plainProg p.main.scope.names) (hN : Nat.ble 600 N = true) (f : ∀ s, fenceModules? p s = some s)
  (h1 : ∀ w, Is p N w (Ends p w) true) (h2 : ∀ w, Is p N w (Fast.tw4187177175401517315 q loose (importedModules p.main.body) Xt true) (openGood q loose)) (h3 : ∀ w, Is p N w Yf (Ya w)) : LeftO p q loose Xt Yf Ya N := fun w => by
 obtain ⟨⟨hp, gs, d, k, os⟩, e1, e2⟩ := Option.map_eq_some_iff.mp (boot_open e hN f w)
 obtain ⟨rfl, rfl, rfl, rfl⟩ : hp = boot_heap w.params ∧ gs = #[] ∧ d = boot_drawn ∧ k = boot_toks := by simpa using e2
 obtain ⟨z1, z2, z3⟩ : _ ∧ _ ∧ _ := by simpa only [Prod.mk.injEq] using bs w
 obtain ⟨s, g, l1⟩ := Option.map_eq_some_iff.mp (h1 w os)
 have l2 := h2 w os
 have l3 := h3 w os
 rw [g] at l2 l3
 replace l2 := Option.some.inj l2
 rw [← Fast.te4187177175401517315] at l2
 unfold run at g
 rw [← Fast.te6613529449190102663, ← Fast.te10156331382660048174, ← Fast.te11892475500146522536, ← Fast.te14364793385576792824] at g
 have r := gr _ _ _ _ g
 rw [s0] at r
 unfold openEnds
 rw [e1]
 show Option.map _ (topFrom treeTable p w N _) = _
 have t : topFrom treeTable p w N ⟨boot_heap w.params, #[], boot_drawn, boot_toks, os⟩ = some s.abs := by
  unfold topFrom
  dsimp only
  rw [z1, z2, z3, r]
  show (match Ends p w s.abs with | true => _ | false => _) = _
  rw [l1]
 rw [t]
 exact congrArg some (congr (congrArg Prod.mk l2) (Option.some.inj l3))
abbrev pw := PySem.Challenge.pw_partproof_k41_hits_misses_needs
abbrev r := Value.ref
abbrev y := Value.type
abbrev z (x : String) (t : Nat) : Value := .str (.ofString x) t
abbrev n (i : Int) (t : Nat) : Value := .int i t
abbrev J := List (Str × Nat × Value)
def D (P : Params) (k : Nat) (l : J) : Obj := ⟨y "dict", none, .dict (l.map fun x => ⟨PyData.keyHash P x.1, .str x.1 x.2.1, x.2.2⟩).toArray k, #[]⟩
def j (v : Value) (l : J) : J := ([("__name__", 165, v), ("__doc__", 166, .none), ("__package__", 167, .none), ("__loader__", 168, .builtin "__main__.__loader__#opaque"), ("__spec__", 169, .none), ("__annotations__", 170, r 6), ("__builtins__", 171, r 4), ("__file__", 173, z "/claim/cut.py" 172), ("__cached__", 174, .none)] : J) ++ l
def v (x : String) (t : Nat) (w : Value) : Str × Nat × Value := (.ofString x, t, w)
def g (i : Nat) : Stmt := pw.main.body.getD i (.Pass ⟨0, 0, 0, 0⟩)
def G (i j : Nat) : Stmt := match g i with
 | .ClassDef _ _ _ b _ _ _ _ _ _ _ => b.getD j (.Pass ⟨0, 0, 0, 0⟩)
 | s => s
def C (s : Stmt) (q : Str → Str) (a t u : Nat) (l : List Value) : Obj := match s with
 | .FunctionDef x p _ _ _ _ _ _ _ h => ⟨y "code", none, .fields ([.str x t, .str (q x) (t + 1), z "/claim/cut.py" (t + 2), n h.line 0, n p.args.length 0, n 0 0, n 0 0, n 3 0, r a, .bool true, n 181 0, r (a + 1), .none] ++ l ++ [n u 0, n h.line 0, z "/claim/cut.py" (u + 1)]).toArray, #[]⟩
 | _ => default
def F (s : Stmt) (q : Str → Str) (k : Nat) (m v : Value) : Obj := match s with
 | .FunctionDef x p b _ _ _ c _ _ _ => ⟨y "function", none, .func (fnOf x (q x) p b c v .none .none m none (r k) .none), #[]⟩
 | _ => default
def c (i a t u : Nat) : Obj := C (g i) id a t u [r (a + 2), r (a + 3), r (a + 4)]
def b (i a t u : Nat) : Obj := C (g i) id a t u [.none, .none, r (a + 2)]
def f (i k : Nat) (m : Value) (v := Value.none) : Obj := F (g i) id k m v
def t (l : List Value) : Obj := ⟨y "tuple", none, .seq l.toArray 0, #[]⟩
def X (x q : String) (b m : List Value) (k : Addr) (s : List Value) (l : List (Option Value)) : Obj := ⟨y "type", none, .cls { name := .ofString x, bases := b, mro := m, ns := k, qualname := .ofString q, subclasses := s }, l.toArray⟩
def d (P : Params) (a t l : Nat) (m : Value) : Obj := D P 2 [("__module__", t + 7, m), ("__firstlineno__", t + 11, n l (t + 10)), ("__static_attributes__", t + 12, r (a + 7)), ("__doc__", t + 13, .none)]
def E (x : String) (b : Addr) (a t : Nat) (s : List Value := []) : Obj := X x x [r b] ([r (a + 9), r b, y "ValueError", y "Exception", y "BaseException", y "object"]) (a + 8) s [some (r a), none, some (z x t), some (z x (t + 8)), some (.builtin "ValueError.__new__"), some (.bool true)]
def m0 := z "__main__" 164
def m1 := z "partproof.arrays" 194
def m2 := z "partproof.errors" 224
def m3 := z "partproof.fractions" 292
def m4 := z "partproof.names" 318
def m5 := z "partproof.terms" 494
def m6 := z "partproof.statements" 640
def m7 := z "law_partproof_k41_hits_misses_needs" 699
def Kf (P : Params) : Frag := (nat_lit 3,D P 66 (j m7 [v "_wall" 193 (r 21),v "is_read_of_put" 202 (r 28),v "hit" 209 (r 35),v "miss" 216 (r 42),v "need" 223 (r 49),v "PartError" 243 (r 59),v "BadNames" 259 (r 72),v "BadTerm" 275 (r 84),v "BadStatement" 291 (r 96),v "is_whole" 300 (r 105),v "is_fraction" 309 (r 112),v "common_divisor" 317 (r 119),v "LETTERS" 321 (z "abcdefghijklmnopqrstuvwxyz" 320),v "LONGEST_NAME" 323 (n 8 322),v "WIDEST_BOUNDS" 325 (n 60 324),v "MOST_VALUES" 327 (n 3600 326),v "MOST_KINDS" 329 (n 3 328),v "is_name" 335 (r 124),v "is_row" 342 (r 131),v "is_kind" 349 (r 138),v "is_list_of_names" 355 (r 143),v "is_bounded" 362 (r 150),v "is_function" 368 (r 155),v "check_wholes" 374 (r 160),v "check_functions" 380 (r 165),v "check_names" 387 (r 172),v "first_parts" 393 (r 177),v "check_unlike" 400 (r 184),v "Names" 493 (r 255),v "DEEPEST" 497 (n 12 496),v "LENGTHS_terms" 519 (r 260),v "word_of" 526 (r 267),v "kind_of" 534 (r 274),v "kind_within" 545 (r 281),v "check_kinds" 557 (r 288),v "kind_of_number" 566 (r 295),v "kind_of_unknown" 576 (r 302),v "kind_of_weigh" 585 (r 309),v "kind_of_plus" 594 (r 316),v "kind_of_call" 606 (r 323),v "kind_of_read" 615 (r 330),v "kind_of_put" 624 (r 337),v "DEEDS" 639 (r 338),v "LENGTHS_statements" 660 (r 339),v "check_statement" 668 (r 346),v "check_within" 678 (r 353),v "check_all" 688 (r 360),v "check_atom" 698 (r 367),v "_law_cell_at" 708 (r 374),v "_law_stream" 720 (r 381),v "_law_draw" 727 (r 388),v "_law_fraction" 736 (r 395),v "_law_term" 748 (r 402),v "_law_array" 759 (r 409),v "_law_read" 770 (r 416),v "_law_is" 779 (r 423),v "law" 792 (r 430)]))::(nat_lit 71,d P 63 244 16 m2)::(nat_lit 72,E "BadNames" 59 63 244)::(nat_lit 83,d P 75 260 18 m2)::(nat_lit 84,E "BadTerm" 59 75 260)::(nat_lit 95,d P 87 276 20 m2)::(nat_lit 96,E "BadStatement" 59 87 276)::(nat_lit 20,c 0 15 187 191)::(nat_lit 21,f 0 20 m0)::(nat_lit 27,c 2 22 196 200)::(nat_lit 28,f 2 27 m1)::(nat_lit 34,c 3 29 203 207)::(nat_lit 35,f 3 34 m1)::(nat_lit 41,c 4 36 210 214)::(nat_lit 42,f 4 41 m1)::(nat_lit 48,c 5 43 217 221)::(nat_lit 49,f 5 48 m1)::(nat_lit 58,D P 3 [v "__module__" 233 (z "partproof.errors" 224),v "__firstlineno__" 237 (n 14 236),v "__static_attributes__" 238 (r 57),v "__weakref__" 240 (r 60),v "__doc__" 241 .none])::(nat_lit 59,X "PartError" "PartError" [(y "ValueError")] [(r 59),(y "ValueError"),(y "Exception"),(y "BaseException"),(y "object")] 58 [(r 72),(r 84),(r 96)] [some (r 50),none,some (z "PartError" 226),some (z "PartError" 234),some (.builtin "ValueError.__new__"),some (.bool true)])::(nat_lit 104,c 12 99 294 298)::(nat_lit 105,f 12 104 m3)::(nat_lit 111,c 13 106 301 307)::(nat_lit 112,f 13 111 m3)::(nat_lit 118,c 14 113 310 315)::(nat_lit 119,f 14 118 m3)::(nat_lit 123,b 21 120 330 333)::(nat_lit 124,f 21 123 m4)::(nat_lit 130,c 22 125 336 340)::(nat_lit 131,f 22 130 m4)::(nat_lit 137,c 23 132 343 347)::(nat_lit 138,f 23 137 m4)::(nat_lit 142,b 24 139 350 353)::(nat_lit 143,f 24 142 m4)::(nat_lit 149,c 25 144 356 360)::(nat_lit 150,f 25 149 m4)::(nat_lit 154,b 26 151 363 366)::(nat_lit 155,f 26 154 m4)::(nat_lit 159,b 27 156 369 372)::(nat_lit 160,f 27 159 m4)::(nat_lit 164,b 28 161 375 378)::(nat_lit 165,f 28 164 m4)::(nat_lit 171,c 29 166 381 385)::(nat_lit 172,f 29 171 m4)::(nat_lit 176,b 30 173 388 391)::(nat_lit 177,f 30 176 m4)::(nat_lit 183,c 31 178 394 398)::(nat_lit 184,f 31 183 m4)::(nat_lit 195,C (G 32 0) (fun _ => "Names.__init__") 192 413 416 [.none,.none,r 194])::(nat_lit 196,F (G 32 0) (fun _ => "Names.__init__") 195 m4 .none)::(nat_lit 202,C (G 32 1) (fun _ => "Names.all_numbers") 197 419 423 [r 199,r 200,r 201])::(nat_lit 203,F (G 32 1) (fun _ => "Names.all_numbers") 202 m4 .none)::(nat_lit 209,C (G 32 2) (fun _ => "Names.all_wholes") 204 426 430 [r 206,r 207,r 208])::(nat_lit 210,F (G 32 2) (fun _ => "Names.all_wholes") 209 m4 .none)::(nat_lit 216,C (G 32 3) (fun _ => "Names.all_things") 211 433 437 [r 213,r 214,r 215])::(nat_lit 217,F (G 32 3) (fun _ => "Names.all_things") 216 m4 .none)::(nat_lit 223,C (G 32 4) (fun _ => "Names.all_functions") 218 440 444 [r 220,r 221,r 222])::(nat_lit 224,F (G 32 4) (fun _ => "Names.all_functions") 223 m4 .none)::(nat_lit 230,C (G 32 5) (fun _ => "Names.all_arrays") 225 447 451 [r 227,r 228,r 229])::(nat_lit 231,F (G 32 5) (fun _ => "Names.all_arrays") 230 m4 .none)::(nat_lit 237,C (G 32 6) (fun _ => "Names.kind") 232 454 459 [r 234,r 235,r 236])::(nat_lit 238,F (G 32 6) (fun _ => "Names.kind") 237 m4 .none)::(nat_lit 244,C (G 32 7) (fun _ => "Names.bounds") 239 462 467 [r 241,r 242,r 243])::(nat_lit 245,F (G 32 7) (fun _ => "Names.bounds") 244 m4 .none)::(nat_lit 251,C (G 32 8) (fun _ => "Names.function") 246 470 475 [r 248,r 249,r 250])::(nat_lit 252,F (G 32 8) (fun _ => "Names.function") 251 m4 .none)::(nat_lit 254,D P 4 [v "__module__" 408 (z "partproof.names" 318),v "__firstlineno__" 412 (n 80 411),v "__init__" 418 (r 196),v "all_numbers" 425 (r 203),v "all_wholes" 432 (r 210),v "all_things" 439 (r 217),v "all_functions" 446 (r 224),v "all_arrays" 453 (r 231),v "kind" 461 (r 238),v "bounds" 469 (r 245),v "function" 477 (r 252),v "__static_attributes__" 486 (r 253),v "__dict__" 488 (r 256),v "__weakref__" 490 (r 257),v "__doc__" 491 .none])::(nat_lit 255,X "Names" "Names" [(y "object")] [(r 255),(y "object")] 254 [] [none,none,some (z "Names" 401),some (z "Names" 409),some (.builtin "object.__new__"),some (.bool true)])::(nat_lit 260,D P 7 [v "number" 498 (n 2 499),v "unknown" 500 (n 2 501),v "weigh" 502 (n 3 503),v "plus" 504 (n 2 505),v "call" 506 (n 3 507),v "read" 508 (n 3 509),v "put" 510 (n 4 511)])::(nat_lit 266,c 36 261 520 524)::(nat_lit 267,f 36 266 m5)::(nat_lit 273,c 37 268 527 532)::(nat_lit 274,f 37 273 m5)::(nat_lit 280,c 38 275 535 543)::(nat_lit 281,f 38 280 m5)::(nat_lit 287,c 39 282 546 555)::(nat_lit 288,f 39 287 m5)::(nat_lit 294,c 40 289 558 564)::(nat_lit 295,f 40 294 m5)::(nat_lit 301,c 41 296 567 574)::(nat_lit 302,f 41 301 m5)::(nat_lit 308,c 42 303 577 583)::(nat_lit 309,f 42 308 m5)::(nat_lit 315,c 43 310 586 592)::(nat_lit 316,f 43 315 m5)::(nat_lit 322,c 44 317 595 604)::(nat_lit 323,f 44 322 m5)::(nat_lit 329,c 45 324 607 613)::(nat_lit 330,f 45 329 m5)::(nat_lit 336,c 46 331 616 622)::(nat_lit 337,f 46 336 m5)::(nat_lit 338,D P 7 [v "number" 625 (r 295),v "unknown" 626 (r 302),v "weigh" 627 (r 309),v "plus" 628 (r 316),v "call" 629 (r 323),v "read" 630 (r 330),v "put" 631 (r 337)])::(nat_lit 339,D P 6 [v "atmost" 642 (n 3 643),v "below" 644 (n 3 645),v "same" 646 (n 3 647),v "not" 648 (n 2 649),v "and" 650 (n 2 651),v "or" 652 (n 2 653)])::(nat_lit 345,c 50 340 661 666)::(nat_lit 346,f 50 345 m6)::(nat_lit 352,c 51 347 669 676)::(nat_lit 353,f 51 352 m6)::(nat_lit 359,c 52 354 679 686)::(nat_lit 360,f 52 359 m6)::(nat_lit 366,c 53 361 689 696)::(nat_lit 367,f 53 366 m6)::(nat_lit 380,c 56 375 709 718)::(nat_lit 381,f 56 380 m7)::(nat_lit 387,c 57 382 721 725)::(nat_lit 388,f 57 387 m7)::(nat_lit 394,c 58 389 728 734)::(nat_lit 395,f 58 394 m7)::(nat_lit 401,c 59 396 737 746)::(nat_lit 402,f 59 401 m7)::(nat_lit 408,c 60 403 749 757)::(nat_lit 409,f 60 408 m7)::(nat_lit 415,c 61 410 760 768)::(nat_lit 416,f 61 415 m7)::(nat_lit 422,c 62 417 771 777)::(nat_lit 423,f 62 422 m7)::(nat_lit 429,c 63 424 780 790)::(nat_lit 430,f 63 429 m7)::[]
abbrev as : List Addr := [3,71,72,83,84,95,96,20,21,27,28,34,35,41,42,48,49,58,59,104,105,111,112,118,119,123,124,130,131,137,138,142,143,149,150,154,155,159,160,164,165,171,172,176,177,183,184,195,196,202,203,209,210,216,217,223,224,230,231,237,238,244,245,251,252,254,255,260,266,267,273,274,280,281,287,288,294,295,301,302,308,309,315,316,322,323,329,330,336,337,338,339,345,346,352,353,359,360,366,367,380,381,387,388,394,395,401,402,408,409,415,416,422,423,429,430]
def q : Program := view pw ((List.range 64).filter fun i => ![1,6,11,15,33,48,54].contains i)
abbrev lo : List Str := ["LENGTHS_terms","DEEDS","LENGTHS_statements"]
abbrev H : Hook := kHook Kf as fun _ => by kernel_rfl
abbrev Xt (s : Shared) := xlAt q [] s && recOk (RowW.records PySem.Challenge.rw_partproof_k41_hits_misses_needs.row.toRowW) s
abbrev k1 (w : World) := Is pw 3117 w (Ends pw w) true
abbrev k2 (w : World) := Is pw 3117 w (Fast.tw4187177175401517315 q lo (importedModules pw.main.body) Xt true) (openGood q lo)
abbrev k3 (w : World) := Is pw 3117 w H.obs (H.val w)
abbrev W (b : Bool) (w : World) := w.withFollow "special-get-raises" b
theorem k1t (w : World) : k1 (W true w) := fun _ => by kernel_rfl
theorem k1f (w : World) : k1 (W false w) := fun _ => by kernel_rfl
theorem k2t (w : World) : k2 (W true w) := fun _ => by kernel_rfl
theorem k2f (w : World) : k2 (W false w) := fun _ => by kernel_rfl
theorem k3t (w : World) : k3 (W true w) := fun _ => by kernel_rfl
theorem k3f (w : World) : k3 (W false w) := fun _ => by kernel_rfl
theorem hl : LeftO pw q lo Xt H.obs H.val 3117 := left (by kernel_rfl) (by decide) (fun s => by kernel_rfl) (byRow2 (P := k1) "special-get-raises" k1f k1t) (byRow2 (P := k2) "special-get-raises" k2f k2t) (byRow2 (P := k3) "special-get-raises" k3f k3t)
end HD
end
noncomputable section
namespace L2
open PySem PySem.Spec PyProof.Rows
abbrev Key := Sum Int Str
def gm : Key → Value → Bool
 | .inl k, v => Value.isInt k v
 | .inr x, v => Value.isStrOf x v
def Sy (w : World) : Key → Int
 | .inl k => hashInt k
 | .inr x => hashStr w x
theorem Du : ∀ {k : Key} {v : Value}, gm k v = true → (∃ i t, k = Sum.inl i ∧ v = Value.int i t) ∨ (∃ x t, k = Sum.inr x ∧ v = Value.str x t)
 | .inl i, v, h => by
  obtain ⟨t, e⟩ := Value.isInt_shape (k := i) (v := v) h
  exact .inl ⟨i, t, rfl, e⟩
 | .inr x, v, h => by
  obtain ⟨t, e⟩ := Value.isStrOf_shape (x := x) (v := v) h
  exact .inr ⟨x, t, rfl, e⟩
theorem Sz (i : Int) (t : Tok) : gm (.inl i) (.int i t) = true := by simp [gm, Value.isInt]
theorem Ta (x : Str) (t : Tok) : gm (.inr x) (.str x t) = true := by simp [gm, Value.isStrOf]
theorem Tb (a b : Int) : decide ((Sum.inl a : Key) = Sum.inl b) = (a == b) := by
 by_cases e : a = b
 · subst e; simp
 · have h : ¬ (Sum.inl a : Key) = Sum.inl b := fun q => e (Sum.inl.inj q)
   rw [decide_eq_false h]
   exact (beq_eq_false_iff_ne.mpr e).symm
theorem Tc (a b : Str) : decide ((Sum.inr a : Key) = Sum.inr b) = decide (a = b) := by
 by_cases e : a = b
 · subst e; simp
 · have h : ¬ (Sum.inr a : Key) = Sum.inr b := fun q => e (Sum.inr.inj q)
   rw [decide_eq_false h, decide_eq_false e]
theorem Td (a : Int) (b : Str) : decide ((Sum.inl a : Key) = Sum.inr b) = false := decide_eq_false (fun q => nomatch q)
theorem Te (a : Str) (b : Int) : decide ((Sum.inr a : Key) = Sum.inl b) = false := decide_eq_false (fun q => nomatch q)
def Ca (prog : Program) (w : World) : PySem.KeyKind prog w Key where
 is := gm
 hash := Sy w
 inj := fun v a b ha hb => by
  rcases Du ha with ⟨i, t, rfl, rfl⟩ | ⟨x, t, rfl, rfl⟩
  · rcases Du hb with ⟨j, u, rfl, e⟩ | ⟨y, u, rfl, e⟩
    · injection e with e1 _; rw [e1]
    · exact nomatch e
  · rcases Du hb with ⟨j, u, rfl, e⟩ | ⟨y, u, rfl, e⟩
    · exact nomatch e
    · injection e with e1 _; rw [e1]
 byValue := fun k v h => by
  rcases Du h with ⟨i, t, rfl, rfl⟩ | ⟨x, t, rfl, rfl⟩ <;> rfl
 pyHash := fun hv h => by
  rcases Du hv with ⟨i, t, rfl, rfl⟩ | ⟨x, t, rfl, rfl⟩
  · exact wpAny_pyHash_int h
  · exact wpAny_pyHash_str h
 eqBool := fun hu hv h => by
  rcases Du hu with ⟨i, t, rfl, rfl⟩ | ⟨x, t, rfl, rfl⟩
  · rcases Du hv with ⟨j, u, rfl, rfl⟩ | ⟨y, u, rfl, rfl⟩
    · rw [Tb] at h; exact wpAny_eqBool_int h
    · rw [Td] at h; exact SeqAt.EqAt.int_str i t y u _ _ _ _ h
  · rcases Du hv with ⟨j, u, rfl, rfl⟩ | ⟨y, u, rfl, rfl⟩
    · rw [Te] at h; exact SeqAt.EqAt.str_int x t j u _ _ _ _ h
    · rw [Tc] at h; exact wpAny_eqBool_str h
 «strs» := fun k x t v h => by
  rcases Du h with ⟨i, u, rfl, e⟩ | ⟨y, u, rfl, e⟩
  · exact nomatch e
  · injection e with e1 _
    subst e1
    cases v <;> rfl
theorem tf (prog : Program) (w : World) (i : Int) (t : Tok) : (Ca prog w).is (.inl i) (.int i t) = true := Sz i t
theorem Tf (prog : Program) (w : World) (x : Str) (t : Tok) : (Ca prog w).is (.inr x) (.str x t) = true := Ta x t
end L2
namespace L2
open PySem PySem.Spec PyProof.Rows
inductive V where
 | non | bl (b : Bool) | int (i : Int) | str (x : Str) | byt (b : Array UInt8) | flt (b : UInt64) | ref (a : Addr) | ty (n : String)
 deriving DecidableEq
def RelV : V → Value → Prop
 | .non, u => u = Value.none
 | .bl b, u => u = Value.bool b
 | .int i, u => ∃ t, u = Value.int i t
 | .str x, u => ∃ t, u = Value.str x t
 | .byt b, u => ∃ t, u = Value.bytes b t
 | .flt b, u => ∃ t, u = Value.float b t
 | .ref a, u => u = Value.ref a
 | .ty n, u => u = Value.type n
abbrev Vals : List V → List Value → Prop := Paired RelV
theorem Vals.length {xs : List V} {us : List Value} (r : Vals xs us) : xs.length = us.length := Paired.length r
theorem Vals.get : ∀ {xs : List V} {us : List Value} {i : Nat} {x : V}, Vals xs us → xs[i]? = some x → ∃ u, us[i]? = some u ∧ RelV x u
 | _, _, _, _, .nil, e => by simp at e
 | _, _, 0, _, .cons r _, e => by simp at e; subst e; exact ⟨_, rfl, r⟩
 | _, _, i + 1, x, .cons _ t, e => by
  obtain ⟨u, h1, h2⟩ := Vals.get (i := i) (x := x) t (by simpa using e)
  exact ⟨u, by simpa using h1, h2⟩
theorem Vals.set {x : V} {u : Value} (r : RelV x u) : ∀ {xs : List V} {us : List Value} (i : Nat), Vals xs us → Vals (xs.set i x) (us.set i u)
 | _, _, _, .nil => .nil
 | _, _, 0, .cons _ t => .cons r t
 | _, _, i + 1, .cons q t => .cons q (Vals.set r i t)
theorem Vals.append : ∀ {xs ys : List V} {us ws : List Value}, Vals xs us → Vals ys ws → Vals (xs ++ ys) (us ++ ws)
 | _, _, _, _, .nil, s => s
 | _, _, _, _, .cons r t, s => .cons r (Vals.append t s)
theorem Vals.take : ∀ {xs : List V} {us : List Value} (n : Nat), Vals xs us → Vals (xs.take n) (us.take n)
 | _, _, 0, _ => .nil
 | _, _, _ + 1, .nil => .nil
 | _, _, n + 1, .cons r t => .cons r (Vals.take n t)
theorem Vals.drop : ∀ {xs : List V} {us : List Value} (n : Nat), Vals xs us → Vals (xs.drop n) (us.drop n)
 | _, _, 0, r => r
 | _, _, _ + 1, .nil => .nil
 | _, _, n + 1, .cons _ t => Vals.drop n t
def Bv : Option V → Option Value → Prop
 | some v, some u => RelV v u
 | none, none => True
 | _, _ => False
def KV {κ : Type} : List (κ × V) → List (κ × Value) → Prop := Paired fun (p : κ × V) (q : κ × Value) => p.1 = q.1 ∧ RelV p.2 q.2
def kV : Key → V
 | .inl i => .int i
 | .inr x => .str x
inductive HO where
 | lst (xs : List V)
 | tup (xs : List V)
 | dK (kvs : List (Key × V)) | dT (kvs : List (List Key × V))
 | set (S : Int → Bool) (n : Nat)
 | ins (C dx : Addr) (fs : List (Str × V))
 | own (x : Addr)
 | xd (fs : List (Str × V))
 | met (f x : Addr)
 | rng (lo hi : Int)
 | frz (o : Obj) (u : HO)
 | tbl (ps : Array Value)
 | ext (φ : Heap → Prop)
abbrev Hp := Addr → Option HO
def upd (H : Hp) (a : Addr) (o : HO) : Hp := fun b => if b = a then some o else H b
theorem cj {H : Hp} {a : Addr} {o : HO} : upd H a o a = some o := by unfold upd; rw [if_pos rfl]
theorem bj {H : Hp} {a b : Addr} {o : HO} (h : b ≠ a) : upd H a o b = H b := by unfold upd; rw [if_neg h]
theorem il {H : Hp} {a b : Addr} {o u : HO} (h : H a = some o) (h' : H b = some u) (d : o ≠ u) : a ≠ b := by
 intro e; subst e; rw [h] at h'; exact d (Option.some.inj h')
theorem Gm {H : Hp} {a b : Addr} {o : HO} (h : H a = some o) (h' : H b = none) : a ≠ b := by
 intro e; subst e; rw [h] at h'; cases h'
section
variable (P : Program) (w : World)
def bg (H : Hp) (h : Heap) (a : Addr) : HO → Prop
  | .lst xs => xs.length ≤ sizeLine ∧ ∃ (its : List Value) (n : Nat), Vals xs its ∧ h.get? a = some { cls := .type "list", data := .seq its.toArray n }
  | .tup xs => xs.length ≤ sizeLine ∧ ∃ its : List Value, Vals xs its ∧ IsTup h a its.toArray
  | .dK kvs => kvs.length ≤ sizeLine ∧ (a == sysModules) = false ∧ ∃ vs, KV kvs vs ∧ h.DictOf (Ca P w) a vs
  | .dT kvs => kvs.length ≤ sizeLine ∧ (a == sysModules) = false ∧ ∃ xs : List (List Key × Addr × Value),
      Paired (fun (p : List Key × V) (q : List Key × Addr × Value) => p.1 = q.1 ∧ H q.2.1 = some (.tup (p.1.map kV)) ∧ RelV p.2 q.2.2) kvs xs ∧
      ∃ o es ep, h.get? a = some o ∧ o.ExactDict ∧ o.data = .dict es ep ∧ es.toList = xs.map (entryOfKey (tupleKind (Ca P w))) ∧ (xs.map (·.1)).Nodup
  | .set S n => h.SetOf (intKind P w) a S n
  | .ins C dx fs => H dx = some (.own a) ∧ fs.length ≤ 1000 ∧ dx ≠ a ∧ h.get? a = some (PySem.W.instObj C dx) ∧
      ∃ mA, h.Ns1 dx mA ∧ (∀ f, Bv (fs.lookup f) (mA f)) ∧ PySem.Within mA (fs.map (·.1))
  | .own _ => ∃ o, h.get? a = some o
  | .xd fs => ∃ mA, h.Ns1 a mA ∧ ∀ f, Bv (fs.lookup f) (mA f)
  | .rng lo hi => ∃ t u v, h.get? a = some { cls := .type "range", data := .fields #[.int lo t, .int hi u, .int 1 v] }
  | .frz o u => h.get? a = some o ∧ bg H h a u
  | .tbl ps => h.get? a = some { cls := .none, data := .fields ps }
  | .met f x => h.get? a = some (PySem.W.methodObj (.ref f) (.ref x))
  | .ext φ => φ h ∧ (∃ o, h.get? a = some o) ∧ ∀ h1 h2 : Heap, φ h1 → (∀ o, h1.get? a = some o → h2.get? a = some o) → φ h2
def HOk (H : Hp) (h : Heap) : Prop := ∀ a o, H a = some o → bg P w H h a o
end
section
variable {P : Program} {w : World} {H H' : Hp} {h h' : Heap} {a : Addr} {o : HO}
theorem bg.lt (x : bg P w H h a o) : a < h.objs.size := by
 cases o with
 | lst xs => obtain ⟨_, _, _, _, e⟩ := x; exact Heap.lt_size e
 | tup xs => obtain ⟨_, _, _, p⟩ := x; exact p.lt
 | dK kvs => obtain ⟨_, _, _, _, o, _, _, e, _⟩ := x; exact Heap.lt_size e
 | dT kvs => obtain ⟨_, _, _, _, o, _, _, e, _⟩ := x; exact Heap.lt_size e
 | set S n => obtain ⟨o, _, _, _, e, _⟩ := x; exact Heap.lt_size e
 | ins C dx fs => obtain ⟨_, _, _, e, _⟩ := x; exact Heap.lt_size e
 | own y => obtain ⟨_, e⟩ := x; exact Heap.lt_size e
 | xd fs => obtain ⟨_, ⟨_, _, _, e, _⟩, _⟩ := x; exact Heap.lt_size e
 | rng lo hi => obtain ⟨_, _, _, e⟩ := x; exact Heap.lt_size e
 | frz ob u => obtain ⟨e, _⟩ := x; exact Heap.lt_size e
 | tbl ps => exact Heap.lt_size (show h.get? a = some _ from x)
 | met f y => exact Heap.lt_size (show h.get? a = some _ from x)
 | ext φ => obtain ⟨_, ⟨_, e⟩, _⟩ := x; exact Heap.lt_size e
theorem Paired.mapP {α β : Type} {F G : α → β → Prop} : ∀ {l₁ : List α} {l₂ : List β}, Paired F l₁ l₂ → (∀ a b, F a b → G a b) → Paired G l₁ l₂
 | _, _, .nil, _ => .nil
 | _, _, .cons r t, f => .cons (f _ _ r) (Paired.mapP t f)
theorem bg.stay (x : bg P w H h a o) (k : ∀ b u, (b = a ∨ H b = some (.own a)) → h.get? b = some u → h'.get? b = some u)
    (ho : ∀ b, H b = some (.own a) → H' b = some (.own a)) (ht : ∀ b xs, H b = some (.tup xs) → H' b = some (.tup xs)) : bg P w H' h' a o := by
  induction o with
  | lst xs => obtain ⟨z, its, n, r, e⟩ := x; exact ⟨z, its, n, r, k _ _ (.inl rfl) e⟩
  | tup xs => obtain ⟨z, its, r, ob, e, c⟩ := x; exact ⟨z, its, r, ob, k _ _ (.inl rfl) e, c⟩
  | dK kvs => obtain ⟨z, y, vs, r, ob, es, ep, e, c⟩ := x; exact ⟨z, y, vs, r, ob, es, ep, k _ _ (.inl rfl) e, c⟩
  | dT kvs =>
    obtain ⟨z, y, xs, r, ob, es, ep, e, c⟩ := x
    exact ⟨z, y, xs, Paired.mapP r fun p q z => ⟨z.1, ht _ _ z.2.1, z.2.2⟩, ob, es, ep, k _ _ (.inl rfl) e, c⟩
  | set S n => obtain ⟨ob, es, ep, t, e, c⟩ := x; exact ⟨ob, es, ep, t, k _ _ (.inl rfl) e, c⟩
  | ins C dx fs =>
    obtain ⟨d, z, ne, e, mA, ⟨od, es, ep, e2, c⟩, r⟩ := x
    exact ⟨ho _ d, z, ne, k _ _ (.inl rfl) e, mA, ⟨od, es, ep, k _ _ (.inr d) e2, c⟩, r⟩
  | own y => obtain ⟨ob, e⟩ := x; exact ⟨ob, k _ _ (.inl rfl) e⟩
  | xd fs => obtain ⟨mA, ⟨od, es, ep, e, c⟩, r⟩ := x; exact ⟨mA, ⟨od, es, ep, k _ _ (.inl rfl) e, c⟩, r⟩
  | rng lo hi => obtain ⟨t, u, v, e⟩ := x; exact ⟨t, u, v, k _ _ (.inl rfl) e⟩
  | frz ob u ih => obtain ⟨e, q⟩ := x; exact ⟨k _ _ (.inl rfl) e, ih q⟩
  | tbl ps =>
    have e : h.get? a = some { cls := .none, data := .fields ps } := x
    show h'.get? a = some { cls := .none, data := .fields ps }
    exact k a _ (.inl rfl) e
  | met f y =>
    have e : h.get? a = some (PySem.W.methodObj (.ref f) (.ref y)) := x
    show h'.get? a = some (PySem.W.methodObj (.ref f) (.ref y))
    exact k a _ (.inl rfl) e
  | ext φ => obtain ⟨p, ⟨o, e⟩, st⟩ := x; exact ⟨st _ _ p fun o q => k _ _ (.inl rfl) q, ⟨o, k _ _ (.inl rfl) e⟩, st⟩
theorem HOk.lt (x : HOk P w H h) (e : H a = some o) : a < h.objs.size := (x a o e).lt
theorem HOk.fresh (x : HOk P w H h) (e : h.objs.size ≤ a) : H a = none := by
 cases q : H a with
 | none => rfl
 | some u => exact absurd (Nat.lt_of_lt_of_le (x.lt q) e) (Nat.lt_irrefl _)
theorem HOk.kept (x : HOk P w H h) (k : ∀ b u, h.get? b = some u → h'.get? b = some u) : HOk P w H h' := fun a o e =>
 (x a o e).stay (fun b u _ q => k b u q) (fun _ q => q) fun _ _ q => q
theorem HOk.laid (x : HOk P w H h) (k : ∀ b u, h.get? b = some u → h'.get? b = some u) (hp : h.objs.size ≤ a) (new : bg P w (upd H a o) h' a o) : HOk P w (upd H a o) h' := fun b u e => by
 have hn := x.fresh hp
 by_cases hb : b = a
 · subst hb; rw [cj] at e; cases e; exact new
 · rw [bj hb] at e
   exact (x b u e).stay (fun c v _ q => k c v q) (fun c q => by rw [bj (Gm q hn)]; exact q) fun c xs q => by rw [bj (Gm q hn)]; exact q
end
def Rd (H : Hp) (a : Addr) (u : HO) : Prop := H a = some u ∨ ∃ o, H a = some (.frz o u)
theorem Rd.ok {P : Program} {w : World} {H : Hp} {h : Heap} {a : Addr} {u : HO} (r : Rd H a u) (x : HOk P w H h) : bg P w H h a u := by
 rcases r with r | ⟨o, r⟩
 · exact x a u r
 · obtain ⟨_, q⟩ := x a _ r
   exact q
def Mut : Option HO → Prop
 | some (.lst _) => True
 | some (.dK _) => True
 | some (.dT _) => True
 | some (.set _ _) => True
 | some (.ins _ _ _) => True
 | some (.ext _) => True
 | _ => False
section
variable {P : Program} {w : World} {H : Hp} {h h' : Heap} {x e : Addr} {o' : HO}
theorem HOk.write (ok : HOk P w H h) (mu : Mut (H x)) (he : e = x ∨ H e = some (.own x)) (k : ∀ b u, b ≠ e → h.get? b = some u → h'.get? b = some u) (heo : ∃ u, h'.get? e = some u)
    (new : bg P w (upd H x o') h' x o') : HOk P w (upd H x o') h' := fun b u q => by
  have nown : ∀ c y, H c = some (.own y) → c ≠ x := fun c y r z => by subst z; rw [r] at mu; exact mu
  have ntup : ∀ c xs, H c = some (.tup xs) → c ≠ x := fun c xs r z => by subst z; rw [r] at mu; exact mu
  by_cases hb : b = x
  · subst hb; rw [cj] at q; cases q; exact new
  · rw [bj hb] at q
    by_cases hbe : b = e
    · have q' : H b = some (.own x) := by
        rcases he with z | z
        · exact absurd (hbe.trans z) hb
        · rw [hbe]; exact z
      rw [q] at q'; cases q'
      obtain ⟨v, hv⟩ := heo
      exact ⟨v, by rw [hbe]; exact hv⟩
    · refine (ok b u q).stay (fun c v hc r => k c v ?_ r) (fun c r => by rw [bj (nown c b r)]; exact r) fun c xs r => by rw [bj (ntup c xs r)]; exact r
      rcases hc with rfl | hc
      · exact hbe
      · rintro rfl
        rcases he with z | z
        · exact nown c b hc z
        · rw [hc] at z; cases z; exact hb rfl
end
structure Un (fs ex : List Addr) (H H' : Hp) (h h' : Heap) : Prop where
 keep : ∀ b o, h.get? b = some o → H b = none → b ∉ fs → b ∉ ex → h'.get? b = some o
 slot : ∀ b o, h.get? b = some o → H b = none → b ∈ fs → b ∉ ex → ∃ sl, h'.get? b = some { o with slots := sl }
 free : ∀ b o, h.get? b = some o → H b = none → b ∉ ex → H' b = none
 there : ∀ b o, h.get? b = some o → b ∉ ex → ∃ o', h'.get? b = some o'
 tups : ∀ b xs, H b = some (.tup xs) → H' b = some (.tup xs)
 frzs : ∀ b o u, H b = some (.frz o u) → H' b = some (.frz o u)
 tbls : ∀ b ps, H b = some (.tbl ps) → ∃ more, H' b = some (.tbl (ps ++ more))
section
variable {fs fs' ex ex' : List Addr} {H H1 H2 : Hp} {h h1 h2 h' : Heap} {a x e : Addr} {o : HO}
theorem Un.any (u : Un fs ex H H1 h h1) {b : Addr} {ob : Obj} (q : h.get? b = some ob) (n : H b = none) (hx : b ∉ ex) : ∃ sl, h1.get? b = some { ob with slots := sl } := by
 by_cases hb : b ∈ fs
 · exact u.slot b ob q n hb hx
 · exact ⟨ob.slots, u.keep b ob q n hb hx⟩
theorem Un.trans (a : Un fs ex H H1 h h1) (b : Un fs ex H1 H2 h1 h2) : Un fs ex H H2 h h2 where
 keep := fun c ob q n hc hx => b.keep c ob (a.keep c ob q n hc hx) (a.free c ob q n hx) hc hx
 slot := fun c ob q n hc hx => by
  obtain ⟨sl, e1⟩ := a.slot c ob q n hc hx
  obtain ⟨sl', e2⟩ := b.slot c _ e1 (a.free c ob q n hx) hc hx
  exact ⟨sl', e2⟩
 free := fun c ob q n hx => by
  obtain ⟨o', e1⟩ := a.there c ob q hx
  exact b.free c o' e1 (a.free c ob q n hx) hx
 there := fun c ob q hx => by
  obtain ⟨o', e1⟩ := a.there c ob q hx
  exact b.there c o' e1 hx
 tups := fun c xs q => b.tups c xs (a.tups c xs q)
 frzs := fun c ob xs q => b.frzs c ob xs (a.frzs c ob xs q)
 tbls := fun c ps q => by
  obtain ⟨m1, e1⟩ := a.tbls c ps q
  obtain ⟨m2, e2⟩ := b.tbls c _ e1
  exact ⟨m1 ++ m2, by rw [e2, Array.append_assoc]⟩
theorem Un.kept (k : ∀ b u, h.get? b = some u → h'.get? b = some u) : Un fs ex H H h h' :=
 ⟨fun b ob q _ _ _ => k b ob q, fun b ob q _ _ _ => ⟨ob.slots, k b ob q⟩, fun _ _ _ n _ => n, fun b ob q _ => ⟨ob, k b ob q⟩, fun _ _ q => q, fun _ _ _ q => q, fun _ ps q => ⟨#[], by rw [q]; simp⟩⟩
theorem Un.refl : Un fs ex H H h h := Un.kept fun _ _ q => q
theorem Un.laid (k : ∀ b u, h.get? b = some u → h'.get? b = some u) (hp : h.objs.size ≤ a) (hn : H a = none) : Un fs ex H (upd H a o) h h' where
 keep := fun b u q _ _ _ => k b u q
 slot := fun b u q _ _ _ => ⟨u.slots, k b u q⟩
 free := fun b u q n _ => by rw [bj (Nat.ne_of_lt (Nat.lt_of_lt_of_le (Heap.lt_size q) hp))]; exact n
 there := fun b u q _ => ⟨u, k b u q⟩
 tups := fun b xs q => by rw [bj (Gm q hn)]; exact q
 frzs := fun b u xs q => by rw [bj (Gm q hn)]; exact q
 tbls := fun b ps q => ⟨#[], by rw [bj (Gm q hn), q]; simp⟩
theorem Un.write (mu : Mut (H x)) (he : e = x ∨ H e = some (.own x)) (k : ∀ b u, b ≠ e → h.get? b = some u → h'.get? b = some u) (heo : ∃ u, h'.get? e = some u) : Un fs ex H (upd H x o) h h' := by
 have hx : ∀ b, H b = none → b ≠ x := fun b n z => by subst z; rw [n] at mu; exact mu
 have hb : ∀ b, H b = none → b ≠ e := fun b n z => by
  subst z
  rcases he with r | r
  · exact hx b n r
  · rw [n] at r; cases r
 have hm : ∀ b u, H b = some u → ¬ Mut (some u) → b ≠ x := fun b u q nm z => by subst z; rw [q] at mu; exact nm mu
 refine ⟨fun b u q n _ _ => k b u (hb b n) q, fun b u q n _ _ => ⟨u.slots, k b u (hb b n) q⟩, fun b u q n _ => by rw [bj (hx b n)]; exact n, fun b u q _ => ?_,
  fun b xs q => by rw [bj (hm b _ q fun z => z)]; exact q, fun b u xs q => by rw [bj (hm b _ q fun z => z)]; exact q, fun b ps q => ⟨#[], by rw [bj (hm b _ q fun z => z), q]; simp⟩⟩
 by_cases hbe : b = e
 · subst hbe; exact heo
 · exact ⟨u, k b u hbe q⟩
end
def trk (h : Heap) (H : Hp) : List Addr := (List.range h.objs.size).filter fun a => (H a).isSome
def Dv (h : Heap) (H : Hp) : Heap := PySem.W.hideAll h (trk h H)
theorem Tg (h : Heap) (H : Hp) : (Dv h H).objs.size = h.objs.size := PySem.W.hideAll_size _ _
theorem Th {h : Heap} {H : Hp} {b : Addr} {o : Obj} (e : h.get? b = some o) (n : H b = none) : (Dv h H).get? b = some o :=
 PySem.W.hideAll_get _ e fun hm => by
  have q : (H b).isSome = true := (List.mem_filter.mp hm).2
  rw [n] at q; simp at q
theorem Ti {h : Heap} {H : Hp} {b : Addr} {o : Obj} (e : (Dv h H).get? b = some o) : h.get? b = some o ∧ H b = none := by
 have e' : h.get? b = some o := PySem.W.of_hideAll (trk h H) e
 refine ⟨e', ?_⟩
 cases q : H b with
 | none => rfl
 | some x =>
  have hm : b ∈ trk h H := List.mem_filter.mpr ⟨List.mem_range.mpr (Heap.lt_size e'), by simp [q]⟩
  have z : (Dv h H).get? b = none := PySem.W.hideAll_none (trk h H) hm
  rw [z] at e; cases e
def tj (g h : Heap) (L : Addr) : List (Addr × Obj) := (List.range h.objs.size).filterMap fun a => if a = L ∨ (g.get? a).isSome = true then none else (h.get? a).map fun o => (a, o)
def rest (g h : Heap) (L d : Addr) : List (Addr × Obj) := (tj g h L).filter fun p => decide (p.1 ≠ d)
end L2
namespace L2
open PySem PySem.Spec PyProof.Rows
structure Mod (K : PySem.W.Frag) (mg : Str → Option Value) (base : Heap) : Prop where
 kin : K.In base
 glob : base.Ns mainGlobals mg
 blt : ∃ mb, base.Ns builtinsNs mb ∧ ∀ x : Str, x ≠ "__name__" → mb x = bootBuiltins x
 nolimit : base.NoLimit
structure Cx where
 prog : Program
 w : World
 K : PySem.W.Frag
 mg : Str → Option Value
 base : Heap
 A : Around
 N : List Str
 s₀ : Shared
 H₀ : Hp
 env : Env
 outer : List Env
 stack : List Env
 ex : List Addr
 fn : Str → Bool
 calm : Bool
 pn : List (Addr × Obj)
 xe : Value → Shared → Prop
def frs (l : List Env) : List Addr := l.filterMap (·.frame)
abbrev Cx.fs (X : Cx) : List Addr := frs X.outer
def Vis (sc : Scope) (x : Str) : Prop := sc.names.lookup x = some .local ∨ sc.names.lookup x = some .cell ∨ sc.names.lookup x = some .free
def Loc (sc : Scope) (x : Str) : Prop := sc.names.lookup x = some .local ∨ sc.names.lookup x = some .cell
def Look (env : Env) (h : Heap) (m : Str → Option Value) (x : Str) (u : Value) : Prop :=
 (env.kindOf x = some .local ∧ m x = some u) ∨ ((env.kindOf x = some .cell ∨ env.kindOf x = some .free) ∧ ∃ c, env.cells.lookup x = some c ∧ h.IsCell c (some u))
structure Cx.Ok (X : Cx) : Prop where
 mod : Mod X.K X.mg X.base
 kind : X.env.scope.kind = .function
 glob : X.env.globals = mainGlobals
 blt : X.env.builtins = builtinsNs
 above : X.s₀.heap.objs.size ≤ X.env.locals
 inj : ∀ x y c, X.env.cells.lookup x = some c → X.env.cells.lookup y = some c → x = y
 has : ∀ x, (X.env.kindOf x = some .cell ∨ X.env.kindOf x = some .free) → ∃ c, X.env.cells.lookup x = some c
 cab : ∀ x c, X.fn x = true → X.env.cells.lookup x = some c → X.s₀.heap.objs.size ≤ c
 hd : X.calm = true → X.A.handled = none
 frames : X.A.frames = some X.stack
 stk : X.stack = X.outer ∨ (X.stack = X.env :: X.outer ∧ X.env.frame = some X.env.locals)
 exf : ∀ b ∈ X.ex, b ≠ X.env.locals ∧ ∀ x c, X.env.cells.lookup x = some c → c ≠ b
 bs : ∀ b o, X.base.get? b = some o → X.s₀.heap.get? b = some o ∧ X.H₀ b = none
 bsz : X.base.objs.size ≤ X.s₀.heap.objs.size
 noex : ∀ b o, X.base.get? b = some o → b ∉ X.ex
 exfs : ∀ b ∈ X.ex, b ∉ X.fs
 funs : X.s₀.heap.FunFrames X.base X.outer
 frf : ∀ b ∈ X.fs, X.H₀ b = none
structure Inv (X : Cx) (pins : List (Addr × Obj)) (σ : List (Option V)) (H : Hp) (s : Shared) : Prop where
 ok : X.Ok
 os : s.os = X.s₀.os
 bare : AllBare s.gens
 base : Un X.fs X.ex X.H₀ H X.s₀.heap s.heap
 loc : ∃ m, s.heap.Ns X.env.locals m ∧ ∀ (i : Nat) (x : Str) (v : V), X.N[i]? = some x → σ[i]? = some (some v) → Vis X.env.scope x → ∃ u, RelV v u ∧ Look X.env s.heap m x u
 cell : ∀ x c, X.env.cells.lookup x = some c → ∃ v, s.heap.IsCell c v
 free : H X.env.locals = none
 freeC : ∀ x c, X.env.cells.lookup x = some c → H c = none
 pin : ∀ p ∈ X.pn ++ pins, s.heap.get? p.1 = some p.2 ∧ H p.1 = none ∧ p.1 ≠ X.env.locals ∧ p.1 ∉ X.fs ∧ ∀ v, p.2.data ≠ .cell v
 hok : HOk X.prog X.w H s.heap
 len : σ.length = X.N.length
section
variable {X : Cx} {pins : List (Addr × Obj)} {σ : List (Option V)} {H H' : Hp} {s : Shared} {h' : Heap}
theorem Cx.Ok.nofr (ok : X.Ok) {b : Addr} {o : Obj} (e : X.base.get? b = some o) : b ∉ X.fs := fun hb => by
 have := (ok.funs.mem hb).1
 rw [e] at this; cases this
theorem Inv.bs (I : Inv X pins σ H s) : ∀ b o, X.base.get? b = some o → s.heap.get? b = some o ∧ H b = none := fun b o e =>
 ⟨I.base.keep b o (I.ok.bs b o e).1 (I.ok.bs b o e).2 (I.ok.nofr e) (I.ok.noex b o e), I.base.free b o (I.ok.bs b o e).1 (I.ok.bs b o e).2 (I.ok.noex b o e)⟩
theorem Inv.bk (I : Inv X pins σ H s) : ∀ b o, X.base.get? b = some o → s.heap.get? b = some o := fun b o e => (I.bs b o e).1
theorem Inv.mod (I : Inv X pins σ H s) : Mod X.K X.mg X.base := I.ok.mod
theorem Inv.kIn (I : Inv X pins σ H s) : X.K.In s.heap := I.ok.mod.kin.keeps I.bk
theorem Inv.lt (I : Inv X pins σ H s) : X.env.locals < s.heap.objs.size := let ⟨_, hn, _⟩ := I.loc; hn.lt
theorem Inv.sz (I : Inv X pins σ H s) : X.s₀.heap.objs.size ≤ s.heap.objs.size := Nat.le_trans I.ok.above (Nat.le_of_lt I.lt)
theorem Inv.nofs (I : Inv X pins σ H s) {a : Addr} (h : s.heap.objs.size ≤ a) : a ∉ X.fs := fun hb => by
 obtain ⟨_, o, ho, _⟩ := I.ok.funs.mem hb
 exact absurd (Nat.lt_of_lt_of_le (Heap.lt_size ho) (Nat.le_trans I.sz h)) (Nat.lt_irrefl _)
theorem Inv.cne (I : Inv X pins σ H s) : ∀ x c, X.env.cells.lookup x = some c → c ≠ X.env.locals := fun x c e z => by
 obtain ⟨v, o, ho, hd⟩ := I.cell x c e
 obtain ⟨m, ⟨o', es, ep, ho', hd', _⟩, _⟩ := I.loc
 rw [z, ho'] at ho; cases ho; rw [hd'] at hd; cases hd
theorem Inv.funs (I : Inv X pins σ H s) : s.heap.FunFrames X.base X.outer := by
 have all : ∀ (l : List Env), (∀ b ∈ frs l, b ∈ X.fs) → X.s₀.heap.FunFrames X.base l → s.heap.FunFrames X.base l := by
  intro l
  induction l with
  | nil => intro _ _; trivial
  | cons env r ih =>
   intro hs hl
   obtain ⟨hk, ⟨L, o, hf, hn, ho, hd⟩, hr⟩ := hl
   have hL : L ∈ X.fs := hs L (by unfold frs; rw [List.filterMap_cons, hf]; exact List.mem_cons_self)
   obtain ⟨sl, e⟩ := I.base.slot L o ho (I.ok.frf L hL) hL fun z => I.ok.exfs L z hL
   exact ⟨hk, ⟨L, _, hf, hn, e, hd⟩, ih (fun b hb => hs b (by unfold frs; rw [List.filterMap_cons, hf]; exact List.mem_cons_of_mem _ hb)) hr⟩
 exact all X.outer (fun _ hb => hb) I.ok.funs
theorem Inv.stack (I : Inv X pins σ H s) : s.heap.FunFrames X.base X.stack := by
 rcases I.ok.stk with e | ⟨e, hf⟩
 · rw [e]; exact I.funs
 · rw [e]
   obtain ⟨m, hn, _⟩ := I.loc
   refine .cons (by rw [I.ok.kind]; decide) hf hn ?_ I.funs
   exact Heap.get?_none_of_le (Nat.le_trans I.ok.bsz I.ok.above)
theorem Inv.stkSub (I : Inv X pins σ H s) : ∀ b ∈ frs X.stack, b ∈ X.env.locals :: X.fs := fun b hb => by
 rcases I.ok.stk with e | ⟨e, hf⟩
 · rw [e] at hb; exact List.mem_cons_of_mem _ hb
 · rw [e] at hb
   unfold frs at hb
   rw [List.filterMap_cons, hf] at hb
   exact hb
theorem Inv.stkFree (I : Inv X pins σ H s) : ∀ b ∈ frs X.stack, H b = none := fun b hb => by
 rcases List.mem_cons.mp (I.stkSub b hb) with e | hb
 · rw [e]; exact I.free
 · obtain ⟨_, o, ho, _⟩ := I.ok.funs.mem hb
   exact I.base.free b o ho (I.ok.frf b hb) fun z => I.ok.exfs b z hb
theorem Inv.step {g' : Array GenState} {t' : Nat} {d' : Drawn} {ch : List Addr} (I : Inv X pins σ H s)
    (hch : ∀ b ∈ ch, (b ∈ X.ex ∨ X.s₀.heap.objs.size ≤ b) ∧ b ≠ X.env.locals ∧ (∀ x c, X.env.cells.lookup x = some c → c ≠ b) ∧ ∀ p ∈ X.pn ++ pins, p.1 ≠ b)
    (keep : ∀ b o, b ≠ X.env.locals → b ∉ X.fs → b ∉ ch → s.heap.get? b = some o → H b = none → h'.get? b = some o)
    (slot : ∀ b o, b ≠ X.env.locals → b ∈ X.fs → b ∉ ch → s.heap.get? b = some o → H b = none → ∃ sl, h'.get? b = some { o with slots := sl }) (free : ∀ b o, b ∉ ch → s.heap.get? b = some o → H b = none → H' b = none)
    (there : ∀ b o, b ∉ ch → s.heap.get? b = some o → ∃ o', h'.get? b = some o')
    (tups : ∀ b xs, H b = some (.tup xs) → H' b = some (.tup xs)) (frzs : ∀ b o u, H b = some (.frz o u) → H' b = some (.frz o u)) (tbls : ∀ b ps, H b = some (.tbl ps) → ∃ more, H' b = some (.tbl (ps ++ more)))
    (ns : ∀ m, s.heap.Ns X.env.locals m → h'.Ns X.env.locals m) (hok : HOk X.prog X.w H' h') (hg : AllBare g') :
    Inv X pins σ H' { s with heap := h', gens := g', drawn := d', toks := t' } := by
  have neL : ∀ b o, X.s₀.heap.get? b = some o → b ≠ X.env.locals := fun b o e => Nat.ne_of_lt (Nat.lt_of_lt_of_le (Heap.lt_size e) I.ok.above)
  have neC : ∀ b o, X.s₀.heap.get? b = some o → b ∉ X.ex → b ∉ ch := fun b o e hx hb => by
    rcases (hch b hb).1 with z | z
    · exact hx z
    · exact absurd (Nat.lt_of_lt_of_le (Heap.lt_size e) z) (Nat.lt_irrefl _)
  have cellK : ∀ x c, X.env.cells.lookup x = some c → ∀ v, s.heap.IsCell c v → h'.IsCell c v := fun x c e v ⟨o, ho, hd⟩ => by
    have nch : c ∉ ch := fun z => (hch c z).2.2.1 x c e rfl
    by_cases hc : c ∈ X.fs
    · obtain ⟨sl, q⟩ := slot c o (I.cne x c e) hc nch ho (I.freeC x c e)
      exact ⟨_, q, hd⟩
    · exact ⟨o, keep c o (I.cne x c e) hc nch ho (I.freeC x c e), hd⟩
  refine ⟨I.ok, I.os, hg, ⟨fun b o e n hb hx => ?_, fun b o e n hb hx => ?_, fun b o e n hx => ?_, fun b o e hx => ?_, fun b xs e => tups b xs (I.base.tups b xs e), fun b o xs e => frzs b o xs (I.base.frzs b o xs e), fun b ps e => ?_⟩, ?_, fun x c e => ?_, ?_, fun x c e => ?_, fun p hp => ?_, hok, I.len⟩
  · exact keep b o (neL b o e) hb (neC b o e hx) (I.base.keep b o e n hb hx) (I.base.free b o e n hx)
  · obtain ⟨sl, e1⟩ := I.base.slot b o e n hb hx
    obtain ⟨sl', e2⟩ := slot b _ (neL b o e) hb (neC b o e hx) e1 (I.base.free b o e n hx)
    exact ⟨sl', e2⟩
  · obtain ⟨o', e1⟩ := I.base.there b o e hx
    exact free b o' (neC b o e hx) e1 (I.base.free b o e n hx)
  · obtain ⟨o', e1⟩ := I.base.there b o e hx
    exact there b o' (neC b o e hx) e1
  · obtain ⟨m1, e1⟩ := I.base.tbls b ps e
    obtain ⟨m2, e2⟩ := tbls b _ e1
    exact ⟨m1 ++ m2, by rw [e2, Array.append_assoc]⟩
  · obtain ⟨m, hn, hl⟩ := I.loc
    refine ⟨m, ns m hn, fun i x v e1 e2 e3 => ?_⟩
    obtain ⟨u, r, l⟩ := hl i x v e1 e2 e3
    refine ⟨u, r, ?_⟩
    rcases l with l | ⟨k, c, e, z⟩
    · exact .inl l
    · exact .inr ⟨k, c, e, cellK x c e _ z⟩
  · obtain ⟨v, z⟩ := I.cell x c e
    exact ⟨v, cellK x c e v z⟩
  · obtain ⟨m, ⟨o, _, _, ho, _⟩, _⟩ := I.loc
    exact free _ o (fun z => (hch _ z).2.1 rfl) ho I.free
  · obtain ⟨v, o, ho, hd⟩ := I.cell x c e
    exact free c o (fun z => (hch c z).2.2.1 x c e rfl) ho (I.freeC x c e)
  · obtain ⟨e, n, ne, nf, d⟩ := I.pin p hp
    have nch : p.1 ∉ ch := fun z => (hch p.1 z).2.2.2 p hp rfl
    exact ⟨keep p.1 p.2 ne nf nch e n, free p.1 p.2 nch e n, ne, nf, d⟩
theorem Inv.un {t' : Nat} (I : Inv X pins σ H s) (u : Un X.fs [] H H' s.heap h') (hok : HOk X.prog X.w H' h') : Inv X pins σ H' { s with heap := h', toks := t' } := by
 obtain ⟨m, ⟨o, es, ep, ho, r⟩, _⟩ := id I.loc
 obtain ⟨sl, hL⟩ := u.any ho I.free (by simp)
 exact I.step (g' := s.gens) (d' := s.drawn) (ch := []) (fun _ z => nomatch z) (fun b o _ hb _ e n => u.keep b o e n hb (by simp)) (fun b o _ hb _ e n => u.slot b o e n hb (by simp)) (fun b o _ e n => u.free b o e n (by simp)) (fun b o _ e => u.there b o e (by simp)) u.tups u.frzs u.tbls (fun m' hm => by
  obtain ⟨o', es', ep', ho', r'⟩ := hm
  rw [ho] at ho'; cases ho'
  exact ⟨_, es', ep', hL, r'⟩) hok I.bare
theorem Inv.call {g' : Array GenState} {t' : Nat} {d' : Drawn} {ch : List Addr} (I : Inv X pins σ H s) (u : Un (frs X.stack) ch H H' s.heap h') (hok : HOk X.prog X.w H' h') (hg : AllBare g')
    (hch : ∀ b ∈ ch, (b ∈ X.ex ∨ X.s₀.heap.objs.size ≤ b) ∧ b ≠ X.env.locals ∧ (∀ x c, X.env.cells.lookup x = some c → c ≠ b) ∧ ∀ p ∈ X.pn ++ pins, p.1 ≠ b) :
    Inv X pins σ H' { s with heap := h', gens := g', drawn := d', toks := t' } := by
  obtain ⟨m, ⟨o, es, ep, ho, r⟩, _⟩ := id I.loc
  obtain ⟨sl, hL⟩ := u.any ho I.free fun z => (hch _ z).2.1 rfl
  exact I.step (ch := ch) hch (fun b o hL hb hc e n => u.keep b o e n (fun z => (List.mem_cons.mp (I.stkSub b z)).elim hL hb) hc) (fun b o _ _ hc e n => u.any e n hc) (fun b o hc e n => u.free b o e n hc) (fun b o hc e => u.there b o e hc) u.tups u.frzs u.tbls (fun m' hm => by
    obtain ⟨o', es', ep', ho', r'⟩ := hm
    rw [ho] at ho'; cases ho'
    exact ⟨_, es', ep', hL, r'⟩) hok hg
theorem Inv.turned {t' : Nat} {it : Addr} (I : Inv X pins σ H s) (k : ∀ b o, b ≠ it → s.heap.get? b = some o → h'.get? b = some o) (hn : H it = none) (hL : it ≠ X.env.locals)
    (h1 : it ∈ X.ex ∨ X.s₀.heap.objs.size ≤ it) (h2 : ∀ x c, X.env.cells.lookup x = some c → c ≠ it) (h3 : ∀ p ∈ X.pn ++ pins, p.1 ≠ it) : Inv X pins σ H { s with heap := h', toks := t' } := by
  have nit : ∀ b u, H b = some u → b ≠ it := fun b u e z => by rw [z, hn] at e; cases e
  refine I.step (g' := s.gens) (d' := s.drawn) (ch := [it]) (fun b hb => ?_) (fun b o _ _ hc e _ => k b o (fun z => hc (by simp [z])) e) (fun b o _ _ hc e _ => ⟨o.slots, k b o (fun z => hc (by simp [z])) e⟩) (fun _ _ _ _ n => n)
    (fun b o hc e => ⟨o, k b o (fun z => hc (by simp [z])) e⟩) (fun _ _ e => e) (fun _ _ _ e => e) (fun b ps e => ⟨#[], by rw [e]; simp⟩) (fun m hm => ?_) (fun b u e => ?_) I.bare
  · have e : b = it := by simpa using hb
    subst e
    exact ⟨h1, hL, h2, h3⟩
  · obtain ⟨o, es, ep, ho, r⟩ := hm
    exact ⟨o, es, ep, k _ o (Ne.symm hL) ho, r⟩
  · refine (I.hok b u e).stay (fun c v hc q => k c v ?_ q) (fun _ q => q) fun _ _ q => q
    rcases hc with z | z
    · rw [z]; exact nit b u e
    · exact nit c _ z
theorem Inv.tok (I : Inv X pins σ H s) (t : Nat) : Inv X pins σ H { s with toks := t } := I.un (h' := s.heap) (t' := t) Un.refl I.hok
theorem Inv.kept {t' : Nat} (I : Inv X pins σ H s) (k : ∀ b u, s.heap.get? b = some u → h'.get? b = some u) : Inv X pins σ H { s with heap := h', toks := t' } := I.un (Un.kept k) (I.hok.kept k)
theorem Inv.laid {a : Addr} {o : HO} {t' : Nat} (I : Inv X pins σ H s) (k : ∀ b u, s.heap.get? b = some u → h'.get? b = some u) (hp : s.heap.objs.size ≤ a) (new : bg X.prog X.w (upd H a o) h' a o) :
    Inv X pins σ (upd H a o) { s with heap := h', toks := t' } := I.un (Un.laid k hp (I.hok.fresh hp)) (I.hok.laid k hp new)
theorem Inv.write {x e : Addr} {o : HO} {t' : Nat} (I : Inv X pins σ H s) (mu : Mut (H x)) (he : e = x ∨ H e = some (.own x)) (k : ∀ b u, b ≠ e → s.heap.get? b = some u → h'.get? b = some u) (heo : ∃ u, h'.get? e = some u)
    (new : bg X.prog X.w (upd H x o) h' x o) : Inv X pins σ (upd H x o) { s with heap := h', toks := t' } := I.un (Un.write mu he k heo) (I.hok.write mu he k heo new)
theorem Inv.pins_of {pins' : List (Addr × Obj)} (I : Inv X pins σ H s) (h : ∀ p ∈ pins', s.heap.get? p.1 = some p.2 ∧ H p.1 = none ∧ p.1 ≠ X.env.locals ∧ p.1 ∉ X.fs ∧ ∀ v, p.2.data ≠ .cell v) : Inv X pins' σ H s :=
 ⟨I.ok, I.os, I.bare, I.base, I.loc, I.cell, I.free, I.freeC, fun p hp => (List.mem_append.mp hp).elim (fun z => I.pin p (List.mem_append_left _ z)) (h p), I.hok, I.len⟩
theorem Mu {N : List Str} (hN : N.Nodup) {i j : Nat} {x : Str} (a : N[i]? = some x) (b : N[j]? = some x) : i = j := by
 obtain ⟨h1, e1⟩ := List.getElem?_eq_some_iff.mp a
 obtain ⟨h2, e2⟩ := List.getElem?_eq_some_iff.mp b
 exact (List.getElem_inj hN).mp (e1.trans e2.symm)
theorem Tj {M : Model} {A : Around} {E : Value → Shared → Prop} {i : Nat} {x : Str} {v : V} {u : Value} {Q : Unit → Shared → Prop} (I : Inv X pins σ H s) (hN : X.N.Nodup) (hi : X.N[i]? = some x) (hx : Loc X.env.scope x) (r : RelV v u)
    (h : ∀ s', Inv X pins (σ.set i (some v)) H s' → (∃ a, Heap.SameBut a s.heap s'.heap ∧ (a = X.env.locals ∨ X.env.cells.lookup x = some a)) → Q () s') (hf : X.fn x = true ∨ X.env.scope.names.lookup x = some .local := by first | exact .inl rfl | exact .inr rfl | assumption) : wpAny M A (storeName X.env x u) Q E s := by
  obtain ⟨m, hn, hl⟩ := id I.loc
  have hcls : (X.env.scope.kind == .class || (X.env.scope.kind == .module && X.env.locals != X.env.globals)) = false := by rw [I.ok.kind]; rfl
  have hiσ : i < σ.length := by rw [I.len]; exact (List.getElem?_eq_some_iff.mp hi).1
  have cne := I.cne
  have tracked : ∀ {a : Addr} {h' : Heap}, (∃ o, s.heap.get? a = some o ∧ H a = none) → Heap.SameBut a s.heap h' → HOk X.prog X.w H h' := fun {a h'} ha hs b ob e => by
    obtain ⟨_, _, hfree⟩ := ha
    refine (I.hok b ob e).stay (fun c w' hc q => (hs.2 c ?_).trans q) (fun _ q => q) fun _ _ q => q
    rintro rfl
    rcases hc with rfl | hc
    · rw [hfree] at e; cases e
    · rw [hfree] at hc; cases hc
  rcases hx with hk | hk
  · refine wpAny_storeName_local hk hn (fun h' hn' hs => ?_) hcls
    obtain ⟨oL, _, _, hoL, _⟩ := id hn
    refine h _ ⟨I.ok, I.os, I.bare, ⟨fun b o e n hb hx => ?_, fun b o e n hb hx => ?_, I.base.free, fun b o e hx => ?_, I.base.tups, I.base.frzs, I.base.tbls⟩, ⟨_, hn', fun j y v' e1 e2 e3 => ?_⟩, fun y c e => ?_, I.free, I.freeC, fun p hp => ?_, tracked ⟨oL, hoL, I.free⟩ hs, by simpa using I.len⟩ ⟨_, hs, .inl rfl⟩
    · exact (hs.2 b (Nat.ne_of_lt (Nat.lt_of_lt_of_le (Heap.lt_size e) I.ok.above))).trans (I.base.keep b o e n hb hx)
    · obtain ⟨sl, e1⟩ := I.base.slot b o e n hb hx
      exact ⟨sl, (hs.2 b (Nat.ne_of_lt (Nat.lt_of_lt_of_le (Heap.lt_size e) I.ok.above))).trans e1⟩
    · obtain ⟨o', e1⟩ := I.base.there b o e hx
      exact ⟨o', (hs.2 b (Nat.ne_of_lt (Nat.lt_of_lt_of_le (Heap.lt_size e) I.ok.above))).trans e1⟩
    · by_cases hj : j = i
      · subst hj
        rw [hi] at e1; cases e1
        rw [List.getElem?_set_self hiσ] at e2
        cases e2
        exact ⟨u, r, .inl ⟨hk, by simp⟩⟩
      · rw [List.getElem?_set_ne (Ne.symm hj)] at e2
        obtain ⟨u', r', q⟩ := hl j y v' e1 e2 e3
        refine ⟨u', r', ?_⟩
        rcases q with ⟨k, e⟩ | ⟨k, c, e, z⟩
        · refine .inl ⟨k, ?_⟩
          have : y ≠ x := fun e => hj (Mu hN e1 (e ▸ hi))
          simp [this, e]
        · exact .inr ⟨k, c, e, z.sameBut hs (cne y c e)⟩
    · obtain ⟨w', z⟩ := I.cell y c e
      exact ⟨w', z.sameBut hs (cne y c e)⟩
    · obtain ⟨e, n, ne, nf, d⟩ := I.pin p hp
      exact ⟨(hs.2 p.1 ne).trans e, n, ne, nf, d⟩
  · have hfn : X.fn x = true := by
      rcases hf with z | z
      · exact z
      · rw [z] at hk; cases hk
    obtain ⟨c, hc⟩ := I.ok.has x (.inl hk)
    obtain ⟨w', z⟩ := I.cell x c hc
    refine wpAny_storeName_cell I.ok.kind hk hc z (fun h' hc' hs => ?_)
    obtain ⟨oc, hoc, hocd⟩ := id z
    refine h { s with heap := h' } ⟨I.ok, I.os, I.bare, ⟨fun b o e n hb hx => ?_, fun b o e n hb hx => ?_, I.base.free, fun b o e hx => ?_, I.base.tups, I.base.frzs, I.base.tbls⟩, ⟨m, hn.sameBut hs (Ne.symm (cne x c hc)), fun j y v' e1 e2 e3 => ?_⟩, fun y c' e => ?_, I.free, I.freeC, fun p hp => ?_, tracked ⟨oc, hoc, I.freeC x c hc⟩ hs, by simpa using I.len⟩ ⟨c, hs, .inr hc⟩
    · exact (hs.2 b (Nat.ne_of_lt (Nat.lt_of_lt_of_le (Heap.lt_size e) (I.ok.cab x c hfn hc)))).trans (I.base.keep b o e n hb hx)
    · obtain ⟨sl, e1⟩ := I.base.slot b o e n hb hx
      exact ⟨sl, (hs.2 b (Nat.ne_of_lt (Nat.lt_of_lt_of_le (Heap.lt_size e) (I.ok.cab x c hfn hc)))).trans e1⟩
    · obtain ⟨o', e1⟩ := I.base.there b o e hx
      exact ⟨o', (hs.2 b (Nat.ne_of_lt (Nat.lt_of_lt_of_le (Heap.lt_size e) (I.ok.cab x c hfn hc)))).trans e1⟩
    · by_cases hj : j = i
      · subst hj
        rw [hi] at e1; cases e1
        rw [List.getElem?_set_self hiσ] at e2
        cases e2
        exact ⟨u, r, .inr ⟨.inl hk, c, hc, hc'⟩⟩
      · rw [List.getElem?_set_ne (Ne.symm hj)] at e2
        obtain ⟨u', r', q⟩ := hl j y v' e1 e2 e3
        refine ⟨u', r', ?_⟩
        rcases q with q | ⟨k, c', e, z'⟩
        · exact .inl q
        · refine .inr ⟨k, c', e, z'.sameBut hs ?_⟩
          rintro rfl
          exact hj (Mu hN e1 (I.ok.inj _ _ _ e hc ▸ hi))
    · by_cases hcc : c' = c
      · subst hcc; exact ⟨_, hc'⟩
      · obtain ⟨w2, z2⟩ := I.cell y c' e
        exact ⟨w2, z2.sameBut hs hcc⟩
    · obtain ⟨e, n, ne, nf, d⟩ := I.pin p hp
      refine ⟨(hs.2 p.1 ?_).trans e, n, ne, nf, d⟩
      intro q
      rw [q, hoc] at e
      have q' : oc = p.2 := Option.some.inj e
      exact d w' (by rw [← q']; exact hocd)
theorem Hl {M : Model} {A : Around} {E : Value → Shared → Prop} {i : Nat} {x : Str} {v : V} {u : Value} {Q : Unit → Shared → Prop} (I : Inv X pins σ H s) (hN : X.N.Nodup) (hi : X.N[i]? = some x) (hx : Loc X.env.scope x) (r : RelV v u)
    (h : ∀ s', Inv X pins (σ.set i (some v)) H s' → Q () s') (hf : X.fn x = true ∨ X.env.scope.names.lookup x = some .local := by first | exact .inl rfl | exact .inr rfl | assumption) : wpAny M A (storeName X.env x u) Q E s :=
  Tj I hN hi hx r (fun s' I' _ => h s' I') hf
theorem Inv.call' {s' : Shared} {ch : List Addr} (I : Inv X pins σ H s) (ho : s'.os = s.os) (u : Un (frs X.stack) ch H H' s.heap s'.heap) (hok : HOk X.prog X.w H' s'.heap) (hg : AllBare s'.gens)
    (hch : ∀ b ∈ ch, (b ∈ X.ex ∨ X.s₀.heap.objs.size ≤ b) ∧ b ≠ X.env.locals ∧ (∀ x c, X.env.cells.lookup x = some c → c ≠ b) ∧ ∀ p ∈ X.pn ++ pins, p.1 ≠ b) : Inv X pins σ H' s' := by
  obtain ⟨h', g', d', t', o'⟩ := s'
  have e : o' = s.os := ho
  subst e
  exact I.call (g' := g') (t' := t') (d' := d') u hok hg hch
end
abbrev XK := Value → Option Addr → Hp → Prop
abbrev St := List (Option V)
abbrev VK := V → Hp → Prop
abbrev TE := St → Hp → VK → Prop
abbrev TT := St → Hp → (Bool → Hp → Prop) → Prop
abbrev TA := St → Hp → (List V → Hp → Prop) → Prop
structure Ends where
 nx : St → Hp → Prop
 rt : VK
 bk : St → Hp → Prop := fun _ _ => False
 ct : St → Hp → Prop := fun _ _ => False
abbrev TS := Ends → St → Hp → Prop
def EP (X : Cx) (pins : List (Addr × Obj)) (σ : St) (Q : VK) (u : Value) (s' : Shared) : Prop := ∃ v H', Inv X pins σ H' s' ∧ RelV v u ∧ Q v H'
def TP (X : Cx) (pins : List (Addr × Obj)) (σ : St) (Q : Bool → Hp → Prop) (b : Bool) (s' : Shared) : Prop := ∃ H', Inv X pins σ H' s' ∧ Q b H'
def AP (X : Cx) (pins : List (Addr × Obj)) (σ : St) (Q : List V → Hp → Prop) (us : List Value) (s' : Shared) : Prop := ∃ vs H', Inv X pins σ H' s' ∧ Vals vs us ∧ Q vs H'
def SP (X : Cx) (pins : List (Addr × Obj)) (D : Ends) (f : Flow) (s' : Shared) : Prop :=
 match f with
 | .next => ∃ σ' H', Inv X pins σ' H' s' ∧ D.nx σ' H'
 | .brk => ∃ σ' H', Inv X pins σ' H' s' ∧ D.bk σ' H'
 | .cont => ∃ σ' H', Inv X pins σ' H' s' ∧ D.ct σ' H'
 | .ret u => ∃ v σ' H', Inv X pins σ' H' s' ∧ RelV v u ∧ D.rt v H'
def PE (X : Cx) (e : Expr) (t : TE) : Prop :=
 ∀ (pins : List (Addr × Obj)) (s : Shared) (σ : St) (H : Hp) (Q : VK), Inv X pins σ H s → t σ H Q → wpAny (model X.prog X.w) X.A (eval e X.env) (EP X pins σ Q) X.xe s
def PT (X : Cx) (e : Expr) (t : TT) : Prop :=
 ∀ (pins : List (Addr × Obj)) (s : Shared) (σ : St) (H : Hp) (Q : Bool → Hp → Prop), Inv X pins σ H s → t σ H Q → wpAny (model X.prog X.w) X.A (isTrue e X.env (eval e X.env)) (TP X pins σ Q) X.xe s
def PW (X : Cx) (e : Expr) (t : TT) : Prop :=
 ∀ (whole : Sem Value) (pins : List (Addr × Obj)) (s : Shared) (σ : St) (H : Hp) (Q : Bool → Hp → Prop), Inv X pins σ H s → t σ H Q → wpAny (model X.prog X.w) X.A (isTrue e X.env whole) (TP X pins σ Q) X.xe s
theorem PW.pt {X : Cx} {e : Expr} {t : TT} (h : PW X e t) : PT X e t := h _
def PA (X : Cx) (es : List Expr) (t : TA) : Prop :=
 ∀ (pos : Pos) (pins : List (Addr × Obj)) (s : Shared) (σ : St) (H : Hp) (Q : List V → Hp → Prop), Inv X pins σ H s → t σ H Q → wpAny (model X.prog X.w) X.A (spliced (backTo pos (starEach es X.env))) (AP X pins σ Q) X.xe s
def PS (X : Cx) (st : Stmt) (t : TS) : Prop :=
 ∀ (pins : List (Addr × Obj)) (s : Shared) (σ : St) (H : Hp) (D : Ends), Inv X pins σ H s → t D σ H → wpAny (model X.prog X.w) X.A (exec st X.env) (SP X pins D) X.xe s
def PSs (X : Cx) (st : List Stmt) (t : TS) : Prop :=
 ∀ (pins : List (Addr × Obj)) (s : Shared) (σ : St) (H : Hp) (D : Ends), Inv X pins σ H s → t D σ H → wpAny (model X.prog X.w) X.A (execs st X.env) (SP X pins D) X.xe s
theorem thn {α : Type} {t : Sem α} {Q Q' : α → Shared → Prop} {M : Model} {A : Around} {E : Value → Shared → Prop} {s : Shared} (h : wpAny M A t Q E s) (hQ : ∀ a s, Q a s → Q' a s) : wpAny M A t Q' E s := wpAny_mono h hQ fun _ _ x => x
end L2
namespace L2
open PySem PySem.Spec PyProof.Rows
section
variable {X : Cx}
def kf (i : Nat) : TE := fun σ H Q => ∃ v, σ[i]? = some (some v) ∧ Q v H
def tC (v : V) : TE := fun _ H Q => Q v H
theorem tm {i : Nat} {x : Str} {pos : Pos} (hN : X.N[i]? = some x) (hv : Vis X.env.scope x) (hd : (x == ("__debug__" : Str)) = false := by decide) (hcd : (x == ("__classdict__" : Str)) = false := by decide) : PE X (.Name x pos) (kf i) := by
 intro pins s σ H Q I h
 obtain ⟨v, e, h⟩ := h
 obtain ⟨m, hn, hl⟩ := I.loc
 obtain ⟨u, r, l⟩ := hl i x v hN e hv
 have fin : EP X pins σ Q u s := ⟨v, H, I, r, h⟩
 rcases l with ⟨hk, hm⟩ | ⟨hk, c, hc, hcell⟩
 · exact wpAny_Name (wpAny_loadName_local I.ok.kind hk hn hm fin) hd
 · rcases hk with hk | hk
   · exact wpAny_Name (wpAny_loadName_cell I.ok.kind hk hc hcell fin) hd
   · exact wpAny_Name (wpAny_loadName_free I.ok.kind hk hc hcell fin hcd) hd
theorem Tn {i j pos} : PE X (.Constant (.int i) j pos) (tC (.int i)) := fun _ _ _ H _ I h => wpAny_Constant_int ⟨.int i, H, I.tok _, ⟨_, rfl⟩, h⟩
theorem To {b j pos} : PE X (.Constant (.bool b) j pos) (tC (.bl b)) := fun _ _ _ H _ I h => Constant_bool ⟨.bl b, H, I, rfl, h⟩
theorem Tp {j pos} : PE X (.Constant .none j pos) (tC .non) := fun _ _ _ H _ I h => Constant_none ⟨.non, H, I, rfl, h⟩
theorem tq {x j pos} : PE X (.Constant (.str x) j pos) (tC (.str x)) := fun _ _ _ H _ I h => Calls.Constant_str ⟨.str x, H, I.tok _, ⟨_, rfl⟩, h⟩
def Gl (X : Cx) (x : Str) : Prop := X.env.kindOf x = some .globalImplicit
theorem kg {E : Value → Shared → Prop} {pins : List (Addr × Obj)} {s : Shared} {σ : St} {H : Hp} {x : Str} {u : Value} {pos : Pos} {Q : Value → Shared → Prop} (I : Inv X pins σ H s) (hg : Gl X x) (hm : X.mg x = some u) (h : Q u s)
    (hd : (x == ("__debug__" : Str)) = false := by decide) : wpAny (model X.prog X.w) X.A (eval (.Name x pos) X.env) Q E s :=
  Calls.Name_function_global I.ok.kind hg (Calls.loadGlobal_global (by rw [I.ok.glob]; exact I.mod.glob.keeps I.bk) hm h) hd
theorem fk {E : Value → Shared → Prop} {pins : List (Addr × Obj)} {s : Shared} {σ : St} {H : Hp} {x : Str} {u : Value} {pos : Pos} {Q : Value → Shared → Prop} (I : Inv X pins σ H s) (hg : Gl X x) (hm : X.mg x = none) (hv : bootBuiltins x = some u) (h : Q u s)
    (hn : x ≠ "__name__" := by decide) (hd : (x == ("__debug__" : Str)) = false := by decide) : wpAny (model X.prog X.w) X.A (eval (.Name x pos) X.env) Q E s := by
  obtain ⟨mb, h1, h2⟩ := I.mod.blt
  exact Calls.Name_function_global I.ok.kind hg (Calls.loadGlobal_builtin (by rw [I.ok.glob]; exact I.mod.glob.keeps I.bk) hm (by rw [I.ok.blt]; exact h1.keeps I.bk) ((h2 x hn).trans hv) h) hd
theorem Il {x : Str} {v : V} {u : Value} {pos : Pos} (hg : Gl X x) (hm : X.mg x = some u) (r : RelV v u) (hd : (x == ("__debug__" : Str)) = false := by decide) : PE X (.Name x pos) (tC v) :=
 fun _ _ _ H _ I h => kg I hg hm ⟨v, H, I, r, h⟩ hd
theorem Tq {x : Str} {v : V} {u : Value} {pos : Pos} (hg : Gl X x) (hm : X.mg x = none) (hv : bootBuiltins x = some u) (r : RelV v u) (hn : x ≠ "__name__" := by decide) (hd : (x == ("__debug__" : Str)) = false := by decide) : PE X (.Name x pos) (tC v) :=
 fun _ _ _ H _ I h => fk I hg hm hv ⟨v, H, I, r, h⟩ hn hd
variable {a b : Expr} {ta tb : TE} {pos : Pos}
variable {tA tB' : TT} {rest : List Expr}
def Ts (t u : TT) : TT := fun σ H Q => t σ H fun c H1 => if c = true then u σ H1 Q else Q false H1
def tOr (t u : TT) : TT := fun σ H Q => t σ H fun c H1 => if c = true then Q true H1 else u σ H1 Q
def Tt (t : TT) : TT := fun σ H Q => t σ H fun c H1 => Q (!c) H1
theorem tu (ha : PT X a tA) : PW X (.BoolOp .And [a] pos) tA := by
 intro wh pins s σ H Q I h
 refine isTrue_and (thn (ha pins s σ H Q I h) fun c s1 e => ?_)
 cases c with
 | true => exact isTrue_and_nil e
 | false => exact e
theorem Tu (ha : PT X a tA) : PW X (.BoolOp .Or [a] pos) tA := by
 intro wh pins s σ H Q I h
 refine isTrue_or (thn (ha pins s σ H Q I h) fun c s1 e => ?_)
 cases c with
 | false => exact isTrue_or_nil e
 | true => exact e
theorem Tv (ha : PT X a tA) (hb : PW X (.BoolOp .And (b :: rest) pos) tB') : PW X (.BoolOp .And (a :: b :: rest) pos) (Ts tA tB') := by
 intro wh pins s σ H Q I h
 refine isTrue_and (thn (ha pins s σ H _ I h) fun c s1 ⟨H1, I1, q1⟩ => ?_)
 cases c with
 | true => exact hb wh pins s1 σ H1 Q I1 q1
 | false => exact ⟨H1, I1, q1⟩
theorem tw (ha : PT X a tA) (hb : PW X (.BoolOp .Or (b :: rest) pos) tB') : PW X (.BoolOp .Or (a :: b :: rest) pos) (tOr tA tB') := by
 intro wh pins s σ H Q I h
 refine isTrue_or (thn (ha pins s σ H _ I h) fun c s1 ⟨H1, I1, q1⟩ => ?_)
 cases c with
 | true => exact ⟨H1, I1, q1⟩
 | false => exact hb wh pins s1 σ H1 Q I1 q1
theorem Tw (ha : PT X a tA) : PT X (.UnaryOp .Not a pos) (Tt tA) := by
 intro pins s σ H Q I h
 exact isTrue_not (ha pins s σ H (fun c H1 => Q (!c) H1) I h)
def Tx (ta tb : TE) : TE := fun σ H Q => ta σ H fun x H1 => ∃ c, x = .bl c ∧ if c = true then tb σ H1 Q else Q (.bl false) H1
def Tz (ta : TE) : TE := fun σ H Q => ta σ H fun x H1 => ∃ c, x = .bl c ∧ Q (.bl (!c)) H1
theorem ua {op} {t : TE} (h : PE X a t) : PE X (.BoolOp op [a] pos) t := fun pins s σ H Q I hw => BoolOp_one (h pins s σ H Q I hw)
theorem Ua (ha : PE X a ta) (hb : PE X (.BoolOp .And (b :: rest) pos) tb) : PE X (.BoolOp .And (a :: b :: rest) pos) (Tx ta tb) := by
 intro pins s σ H Q I h
 refine BoolOp_and (thn (ha pins s σ H _ I h) fun v s1 ⟨x, H1, I1, r1, q1⟩ => ?_)
 obtain ⟨c, rfl, q1⟩ := q1
 cases r1
 refine wpAny_truthy_bool ?_
 cases c with
 | true => exact hb pins s1 σ H1 Q I1 q1
 | false => exact ⟨.bl false, H1, I1, rfl, q1⟩
theorem ub (ha : PE X a ta) : PE X (.UnaryOp .Not a pos) (Tz ta) := by
 intro pins s σ H Q I h
 refine UnaryOp_ (thn (ha pins s σ H _ I h) fun v s1 ⟨x, H1, I1, r1, q1⟩ => ?_)
 obtain ⟨c, rfl, q1⟩ := q1
 cases r1
 exact not_of (wpAny_truthy_bool ⟨.bl (!c), H1, I1, rfl, q1⟩)
def tIf (t : TT) (ta tb : TE) : TE := fun σ H Q => t σ H fun c H1 => if c = true then ta σ H1 Q else tb σ H1 Q
theorem Ub {c : Expr} (hc : PT X c tA) (ha : PE X a ta) (hb : PE X b tb) : PE X (.IfExp c a b pos) (tIf tA ta tb) := by
 intro pins s σ H Q I h
 refine wpAny_IfExp (thn (hc pins s σ H _ I h) fun d s1 ⟨H1, I1, q1⟩ => ?_)
 cases d with
 | true => exact ha pins s1 σ H1 Q I1 q1
 | false => exact hb pins s1 σ H1 Q I1 q1
end
end L2
namespace L2
open PySem PySem.Spec PyProof.Rows
def SqL (K : PySem.W.Frag) (H : Hp) (a : Addr) (xs : List V) : Prop :=
 Rd H a (.lst xs) ∨
  ∃ (o : Obj) (its : Array Value) (n : Nat), K.lookup a = some o ∧ o.cls = .type "list" ∧ o.dict = none ∧ o.data = .seq its n ∧ its.size ≤ sizeLine ∧ Vals xs its.toList
def SqT (K : PySem.W.Frag) (H : Hp) (a : Addr) (xs : List V) : Prop :=
 Rd H a (.tup xs) ∨
  ∃ (o : Obj) (its : Array Value) (n : Nat), K.lookup a = some o ∧ o.cls = .type "tuple" ∧ o.data = .seq its n ∧ its.size ≤ sizeLine ∧ Vals xs its.toList
def uc : Value → Option V
 | .none => some .non
 | .bool b => some (.bl b)
 | .int i _ => some (.int i)
 | .str x _ => some (.str x)
 | .bytes b _ => some (.byt b)
 | .float b _ => some (.flt b)
 | .ref a => some (.ref a)
 | .type n => some (.ty n)
 | _ => none
theorem RelV.abs {x : V} {u : Value} (r : RelV x u) : uc u = some x := by
 cases x with
 | non => cases r; rfl
 | bl _ => cases r; rfl
 | int _ => obtain ⟨t, rfl⟩ := r; rfl
 | str _ => obtain ⟨t, rfl⟩ := r; rfl
 | byt _ => obtain ⟨t, rfl⟩ := r; rfl
 | flt _ => obtain ⟨t, rfl⟩ := r; rfl
 | ref _ => cases r; rfl
 | ty _ => cases r; rfl
theorem RelV.inj {x y : V} {u : Value} (r : RelV x u) (q : RelV y u) : x = y := Option.some.inj (r.abs.symm.trans q.abs)
theorem Vals.inj : ∀ {xs ys : List V} {us : List Value}, Vals xs us → Vals ys us → xs = ys
 | _, _, _, .nil, .nil => rfl
 | _, _, _, .cons r t, .cons r' t' => by rw [r.inj r', Vals.inj t t']
section
variable {X : Cx} {pins : List (Addr × Obj)} {σ : St} {H : Hp} {s : Shared} {a : Addr} {xs ys : List V}
theorem SqL.of {K : PySem.W.Frag} (h : H a = some (.lst xs)) : SqL K H a xs := .inl (.inl h)
theorem SqT.of {K : PySem.W.Frag} (h : H a = some (.tup xs)) : SqT K H a xs := .inl (.inl h)
theorem Inv.list (I : Inv X pins σ H s) (h : SqL X.K H a xs) : ∃ its : List Value, Vals xs its ∧ PlainL s.heap a its.toArray ∧ xs.length ≤ sizeLine := by
 rcases h with h | ⟨o, its, n, hk, hc, hd, hs, hz, r⟩
 · obtain ⟨z, its, n, r, e⟩ := h.ok I.hok
   exact ⟨its, r, ⟨_, n, e, rfl, rfl, rfl⟩, z⟩
 · refine ⟨its.toList, r, ⟨o, n, I.kIn a o hk, hc, hd, by simpa using hs⟩, ?_⟩
   have e := r.length
   simp only [Array.length_toList] at e
   omega
theorem Inv.tuple (I : Inv X pins σ H s) (h : SqT X.K H a xs) : ∃ its : List Value, Vals xs its ∧ IsTup s.heap a its.toArray ∧ xs.length ≤ sizeLine := by
 rcases h with h | ⟨o, its, n, hk, hc, hs, hz, r⟩
 · obtain ⟨z, its, r, p⟩ := h.ok I.hok
   exact ⟨its, r, p, z⟩
 · refine ⟨its.toList, r, ⟨o, I.kIn a o hk, hc, n, by simpa using hs⟩, ?_⟩
   have e := r.length
   simp only [Array.length_toList] at e
   omega
theorem Inv.list_inj (I : Inv X pins σ H s) (h : SqL X.K H a xs) (h' : SqL X.K H a ys) : xs = ys := by
 obtain ⟨its, r, ⟨o, n, e, _, _, d⟩, _⟩ := I.list h
 obtain ⟨its', r', ⟨o', n', e', _, _, d'⟩, _⟩ := I.list h'
 rw [e] at e'; cases e'
 rw [d] at d'
 injection d' with d1 _
 have : its = its' := by simpa using congrArg Array.toList d1
 subst this
 exact r.inj r'
theorem Inv.tuple_inj (I : Inv X pins σ H s) (h : SqT X.K H a xs) (h' : SqT X.K H a ys) : xs = ys := by
 obtain ⟨its, r, ⟨o, e, _, n, d⟩, _⟩ := I.tuple h
 obtain ⟨its', r', ⟨o', e', _, n', d'⟩, _⟩ := I.tuple h'
 rw [e] at e'; cases e'
 rw [d] at d'
 injection d' with d1 _
 have : its = its' := by simpa using congrArg Array.toList d1
 subst this
 exact r.inj r'
end
abbrev Cx.wish (X : Cx) (E : Value → Shared → Prop) : Cx := { X with xe := E }
abbrev Cx.nox (X : Cx) : Cx := X.wish fun _ _ => False
theorem Cx.Ok.wish {X : Cx} (ok : X.Ok) (E : Value → Shared → Prop) : (X.wish E).Ok :=
 ⟨ok.mod, ok.kind, ok.glob, ok.blt, ok.above, ok.inj, ok.has, ok.cab, ok.hd, ok.frames, ok.stk, ok.exf, ok.bs, ok.bsz, ok.noex, ok.exfs, ok.funs, ok.frf⟩
theorem Cx.Ok.unwish {X : Cx} {E : Value → Shared → Prop} (ok : (X.wish E).Ok) : X.Ok :=
 ⟨ok.mod, ok.kind, ok.glob, ok.blt, ok.above, ok.inj, ok.has, ok.cab, ok.hd, ok.frames, ok.stk, ok.exf, ok.bs, ok.bsz, ok.noex, ok.exfs, ok.funs, ok.frf⟩
section
variable {X : Cx} {pins : List (Addr × Obj)} {σ : St} {H : Hp} {s : Shared} {E : Value → Shared → Prop}
theorem Inv.wish (I : Inv X pins σ H s) (E : Value → Shared → Prop) : Inv (X.wish E) pins σ H s := ⟨I.ok.wish E, I.os, I.bare, I.base, I.loc, I.cell, I.free, I.freeC, I.pin, I.hok, I.len⟩
theorem Inv.unwish (I : Inv (X.wish E) pins σ H s) : Inv X pins σ H s := ⟨I.ok.unwish, I.os, I.bare, I.base, I.loc, I.cell, I.free, I.freeC, I.pin, I.hok, I.len⟩
theorem SP.unwish {D : Ends} {f : Flow} {s' : Shared} (h : SP (X.wish E) pins D f s') : SP X pins D f s' := by
 cases f with
 | next => obtain ⟨σ', H', I, q⟩ := h; exact ⟨σ', H', I.unwish, q⟩
 | brk => obtain ⟨σ', H', I, q⟩ := h; exact ⟨σ', H', I.unwish, q⟩
 | cont => obtain ⟨σ', H', I, q⟩ := h; exact ⟨σ', H', I.unwish, q⟩
 | ret u => obtain ⟨v, σ', H', I, r, q⟩ := h; exact ⟨v, σ', H', I.unwish, r, q⟩
theorem PE.nox {e : Expr} {t : TE} (h : PE X.nox e t) : PE X e t := fun pins s σ H Q I hw =>
 wpAny_mono (h pins s σ H Q (I.wish _) hw) (fun _ _ ⟨v, H', I', r, q⟩ => ⟨v, H', I'.unwish, r, q⟩) fun _ _ z => False.elim z
theorem PT.nox {e : Expr} {t : TT} (h : PT X.nox e t) : PT X e t := fun pins s σ H Q I hw =>
 wpAny_mono (h pins s σ H Q (I.wish _) hw) (fun _ _ ⟨H', I', q⟩ => ⟨H', I'.unwish, q⟩) fun _ _ z => False.elim z
theorem PSs.nox {st : List Stmt} {t : TS} (h : PSs X.nox st t) : PSs X st t := fun pins s σ H D I hw =>
 wpAny_mono (h pins s σ H D (I.wish _) hw) (fun _ _ q => q.unwish) fun _ _ z => False.elim z
end
section
variable {X : Cx} {st : Stmt} {rest : List Stmt} {t u : TS} {e : Expr} {te : TE} {pos : Pos}
def Uc : TS := fun D σ H => D.nx σ H
def ud (t u : TS) : TS := fun D σ H => t { D with nx := u D } σ H
theorem Ud : PSs X [] Uc := fun _ _ σ H _ I h => wpAny_execs_nil ⟨σ, H, I, h⟩
theorem ue (h1 : PS X st t) (h2 : PSs X rest u) : PSs X (st :: rest) (ud t u) := by
 intro pins s σ H D I h
 refine wpAny_execs_cons (thn (h1 pins s σ H { D with nx := u D } I h) fun f s1 q => ?_)
 cases f with
 | next =>
  obtain ⟨σ', H', I', q⟩ := q
  exact h2 pins s1 σ' H' D I' q
 | ret v => exact q
 | brk => exact q
 | cont => exact q
theorem Inv.quiet {pins : List (Addr × Obj)} {σ : St} {H : Hp} {s : Shared} (I : Inv X pins σ H s) : interactive X.env = false := by simp [interactive, I.ok.kind]
def Ue (te : TE) : TS := fun D σ H => te σ H fun _ H1 => D.nx σ H1
theorem uf (he : PE X e te) (hs : swapsWith e none pos.line X.env = pure false := by rfl) : PS X (.Expr e pos) (Ue te) := by
 intro pins s σ H D I h
 exact wpAny_Expr_any (thn (he pins s σ H _ I h) fun v s1 ⟨x, H1, I1, r1, q1⟩ => ⟨σ, H1, I1, q1⟩) I.quiet hs
def ug (te : TE) : TS := fun D σ H => te σ H D.rt
theorem Ug (he : PE X e te) : PS X (.Return (some e) pos) (ug te) := by
 intro pins s σ H D I h
 exact wpAny_Return_some (thn (he pins s σ H _ I h) fun v s1 ⟨x, H1, I1, r1, q1⟩ => ⟨x, σ, H1, I1, r1, q1⟩)
def uh (c : TT) (t u : TS) : TS := fun D σ H => c σ H fun b H1 => if b = true then t D σ H1 else u D σ H1
theorem Uh {c : Expr} {a b : List Stmt} {tc : TT} (hc : PT X c tc) (ha : PSs X a t) (hb : PSs X b u) : PS X (.If c a b pos) (uh tc t u) := by
 intro pins s σ H D I h
 refine wpAny_If (thn (hc pins s σ H _ I h) fun d s1 ⟨H1, I1, q1⟩ => ?_)
 cases d with
 | true => exact ha pins s1 σ H1 D I1 q1
 | false => exact hb pins s1 σ H1 D I1 q1
end
abbrev TG := V → St → Hp → (St → Hp → Prop) → Prop
abbrev TGs := List V → St → Hp → (St → Hp → Prop) → Prop
def PG (X : Cx) (target : Expr) (t : TG) : Prop :=
 ∀ (pins : List (Addr × Obj)) (s : Shared) (σ : St) (H : Hp) (v : V) (u : Value) (Q : St → Hp → Prop), Inv X pins σ H s → RelV v u → t v σ H Q →
  wpAny (model X.prog X.w) X.A (assign target X.env u) (fun _ s' => ∃ σ' H', Inv X pins σ' H' s' ∧ Q σ' H') X.xe s
def PGs (X : Cx) (ts : List Expr) (t : TGs) : Prop :=
 ∀ (pins : List (Addr × Obj)) (s : Shared) (σ : St) (H : Hp) (vs : List V) (us : List Value) (Q : St → Hp → Prop), Inv X pins σ H s → Vals vs us → t vs σ H Q →
  wpAny (model X.prog X.w) X.A (assignInOrder ((assignEach ts X.env).map (·.2)) us) (fun _ s' => ∃ σ' H', Inv X pins σ' H' s' ∧ Q σ' H') X.xe s
abbrev TIp := V → V → Hp → VK → Prop
def PIp (X : Cx) (op : Operator) (t : TIp) : Prop :=
 ∀ (pins : List (Addr × Obj)) (s : Shared) (σ : St) (H : Hp) (x y : V) (v u : Value) (Q : VK), Inv X pins σ H s → RelV x v → RelV y u → t x y H Q →
  wpAny (model X.prog X.w) X.A (inplaceOp op v u) (EP X pins σ Q) X.xe s
section
variable {X : Cx} {pos : Pos}
def Im (i : Nat) : TG := fun v σ H Q => Q (σ.set i (some v)) H
theorem cp {i : Nat} {x : Str} (hN : X.N.Nodup) (hi : X.N[i]? = some x) (hx : Loc X.env.scope x) (hf : X.fn x = true ∨ X.env.scope.names.lookup x = some .local := by first | exact .inl rfl | exact .inr rfl | assumption) : PG X (.Name x pos) (Im i) := by
 intro pins s σ H v u Q I r h
 exact wpAny_assign_Name (Hl I hN hi hx r (fun s' I' => ⟨_, H, I', h⟩) hf)
def Kg : TGs := fun vs σ H Q => vs = [] ∧ Q σ H
def Io (t : TG) (u : TGs) : TGs := fun vs σ H Q => ∃ v r, vs = v :: r ∧ t v σ H fun σ' H' => u r σ' H' Q
theorem Gn : PGs X [] Kg := by
 intro pins s σ H vs us Q I r h
 obtain ⟨e, h⟩ := h
 subst e
 cases r
 exact assignInOrder_nil ⟨σ, H, I, h⟩
theorem Cj {e : Expr} {es : List Expr} {t : TG} {u : TGs} (h1 : PG X e t) (h2 : PGs X es u)
    (hs : (assignEach (e :: es) X.env).map (·.2) = assign e X.env :: (assignEach es X.env).map (·.2) := by rfl) : PGs X (e :: es) (Io t u) := by
  intro pins s σ H vs us Q I r h
  obtain ⟨v, vr, e1, h⟩ := h
  subst e1
  cases r with
  | cons r rr =>
    rw [hs]
    refine assignInOrder_cons (thn (h1 pins s σ H _ _ _ I r h) fun _ s1 ⟨σ1, H1, I1, q1⟩ => ?_)
    exact h2 pins s1 σ1 H1 _ _ Q I1 rr q1
def kh (K : PySem.W.Frag) (n : Nat) (t : TGs) : TG := fun v σ H Q => ∃ a xs, v = .ref a ∧ SqT K H a xs ∧ xs.length = n ∧ t xs σ H Q
theorem gp {es : List Expr} {k : Nat} {t : TGs} {n : Nat} (hc : X.calm = true) (h : PGs X es t)
    (hn : (assignEach es X.env).length = n := by rfl) (hst : (assignEach es X.env).findIdx? (·.1) = none := by rfl) : PG X (.Tuple es k pos) (kh X.K n t) := by
  intro pins s σ H v u Q I r hw
  obtain ⟨a, xs, e1, hq, hl, hw⟩ := hw
  subst e1
  cases r
  obtain ⟨its, rv, ht, hz⟩ := I.tuple hq
  refine assign_Tuple_tuple (I.ok.hd hc) ht (by simp [hn, ← hl, rv.length]) hst fun h' hx => ?_
  have I1 : Inv X pins σ H { s with heap := h' } := I.kept (t' := s.toks) fun b o e => hx b o (Nat.ne_of_lt (Heap.lt_size e)) e
  exact h pins _ σ H xs _ Q I1 (by simpa using rv) hw
def Mv (te : TE) (g : TG) : TS := fun D σ H => te σ H fun x H1 => g x σ H1 D.nx
theorem ui {tg e : Expr} {te : TE} {g : TG} (he : PE X e te) (hg : PG X tg g) (hs : swapsWithSole [tg] e pos.line X.env = pure false := by rfl) (hw : swappedStores [tg] e X.env = pure none := by rfl)
    (h1 : (assignEach [tg] X.env).map (·.2) = [assign tg X.env] := by rfl) : PS X (.Assign [tg] e pos) (Mv te g) := by
  intro pins s σ H D I h
  refine wpAny_Assign_stores (thn (he pins s σ H _ I h) fun v s1 ⟨x, H1, I1, r1, q1⟩ => ?_) hs hw
  rw [h1]
  exact thn (hg pins s1 σ H1 x v _ I1 r1 q1) fun _ s2 q => q
theorem Ui {i : Nat} {x : Str} {e : Expr} {te : TE} {pos' : Pos} (hN : X.N.Nodup) (hi : X.N[i]? = some x) (hx : Loc X.env.scope x) (he : PE X e te) (hs : swapsWith e (some (.Name x pos')) pos.line X.env = pure false := by rfl) (hf : X.fn x = true ∨ X.env.scope.names.lookup x = some .local := by first | exact .inl rfl | exact .inr rfl | assumption) :
    PS X (.Assign [.Name x pos'] e pos) (Mv te (Im i)) := by
  intro pins s σ H D I h
  refine wpAny_Assign_Name (thn (he pins s σ H _ I h) fun v s1 ⟨y, H1, I1, r1, q1⟩ => ?_) hs
  exact Hl I1 hN hi hx r1 (fun s2 I2 => ⟨_, H1, I2, q1⟩) hf
def uj (i j : Nat) (ta : TA) : TS := fun D σ H => ta σ H fun vs H1 => ∃ v w, vs = [v, w] ∧ D.nx ((σ.set i (some v)).set j (some w)) H1
theorem Uj {i j : Nat} {x y : Str} {a b : Expr} {ta : TA} {px py pt : Pos} {kt k2 pt2} (hc : X.calm = true) (hN : X.N.Nodup) (hi : X.N[i]? = some x) (hj : X.N[j]? = some y) (hij : i ≠ j)
    (hx : X.env.scope.names.lookup x = some .local) (hy : X.env.scope.names.lookup y = some .local) (ha : PA X [a, b] ta)
    (hw : swappedStores [.Tuple [.Name x px, .Name y py] kt pt] (.Tuple [a, b] k2 pt2) X.env = pure (some [x, y]))
    (hs : swapsWithSole [.Tuple [.Name x px, .Name y py] kt pt] (.Tuple [a, b] k2 pt2) pos.line X.env = pure false := by rfl) :
    PS X (.Assign [.Tuple [.Name x px, .Name y py] kt pt] (.Tuple [a, b] k2 pt2) pos) (uj i j ta) := by
  intro pins s σ H D I h
  rw [exec_Assign_arm]
  refine wpAny_bind (wpAny_standAt ?_)
  rw [hs]
  refine wpAny_bind (wpAny_pure ?_)
  rw [if_neg (by decide)]
  refine wpAny_bind (Tuple_ (thn (ha _ pins s σ H _ I h) fun us s1 ⟨vs, H1, I1, r1, q1⟩ => ?_))
  obtain ⟨v, w, e1, q1⟩ := q1
  subst e1
  obtain ⟨u1, u2, rfl, rv, rw'⟩ : ∃ u1 u2, us = [u1, u2] ∧ RelV v u1 ∧ RelV w u2 := by
    cases r1 with
    | cons p q =>
      cases q with
      | cons p' q' =>
        cases q'
        exact ⟨_, _, rfl, p, p'⟩
  refine wpAny_newObj_type ?_ (by show 2 ≤ sizeLine; decide)
  have I2 : Inv X pins σ H1 { s1 with heap := s1.heap.push { cls := .type "tuple", data := .seq [u1, u2].toArray } } := I1.kept (t' := s1.toks) fun b o e => Heap.get?_push_of_some _ e
  rw [hw]
  refine wpAny_bind (wpAny_pure ?_)
  show wpAny (model X.prog X.w) X.A (do rule "assign.swapped-stores"; let items ← unpackItems (.ref s1.heap.objs.size) 2 none; assignInOrder [fun v => bindName X.env y v, fun v => bindName X.env x v] items.reverse; pure Flow.next) _ _ _
  refine wpAny_bind (wpAny_rule (wpAny_bind (unpackItems_tuple (items := #[u1, u2]) (I.ok.hd hc) (IsTup.new s1.heap _) fun h' hx' => ?_)))
  have I3 := I2.kept (h' := h') (t' := s1.toks) fun b o e => hx' b o (Nat.ne_of_lt (Heap.lt_size e)) e
  show wpAny _ _ (assignInOrder [fun v => bindName X.env y v, fun v => bindName X.env x v] [u2, u1] >>= fun _ => pure Flow.next) _ _ _
  refine wpAny_bind (assignInOrder_cons (wpAny_bindName (Hl I3 hN hj (.inl hy) rw' (fun s2 I4 => ?_) (.inr hy))))
  refine assignInOrder_cons (wpAny_bindName (Hl I4 hN hi (.inl hx) rv (fun s3 I5 => assignInOrder_nil (wpAny_pure ?_)) (.inr hx)))
  rw [List.set_comm _ _ (Ne.symm hij)] at I5
  exact ⟨_, H1, I5, q1⟩
def mw (i : Nat) (te : TE) (ti : TIp) : TS := fun D σ H => ∃ x, σ[i]? = some (some x) ∧ te σ H fun y H1 => ti x y H1 fun z H2 => D.nx (σ.set i (some z)) H2
theorem uk {i : Nat} {x : Str} {e : Expr} {te : TE} {op : Operator} {ti : TIp} {pos' : Pos} (hN : X.N.Nodup) (hi : X.N[i]? = some x) (hx : Loc X.env.scope x) (he : PE X e te) (ho : PIp X op ti) (hf : X.fn x = true ∨ X.env.scope.names.lookup x = some .local := by first | exact .inl rfl | exact .inr rfl | assumption) :
    PS X (.AugAssign (.Name x pos') op e pos) (mw i te ti) := by
  intro pins s σ H D I h
  obtain ⟨v, e1, h⟩ := h
  obtain ⟨m, hn, hl⟩ := I.loc
  have vis : Vis X.env.scope x := by rcases hx with k | k; exact .inl k; exact .inr (.inl k)
  obtain ⟨u, r, l⟩ := hl i x v hi e1 vis
  refine wpAny_AugAssign_Name ?_
  have go : wpAny (model X.prog X.w) X.A (eval e X.env) (fun w s₂ => wpAny (model X.prog X.w) X.A (inplaceOp op u w) (fun r s₃ => wpAny (model X.prog X.w) X.A (storeName X.env x r) (fun _ => SP X pins D .next) X.xe s₃) X.xe s₂) X.xe s := by
    refine thn (he pins s σ H _ I h) fun w s1 ⟨y, H1, I1, r1, q1⟩ => ?_
    refine thn (ho pins s1 σ H1 v y u w _ I1 r r1 q1) fun z s2 ⟨zv, H2, I2, r2, q2⟩ => ?_
    exact Hl I2 hN hi hx r2 (fun s3 I3 => ⟨_, H2, I3, q2⟩) hf
  rcases l with ⟨hk, hm⟩ | ⟨hk, c, hc, hcell⟩
  · exact wpAny_loadName_local I.ok.kind hk hn hm go
  · rcases hk with hk | hk
    · exact wpAny_loadName_cell I.ok.kind hk hc hcell go
    · rcases hx with k | k
      · have : X.env.scope.names.lookup x = some .free := hk
        rw [k] at this; cases this
      · have : X.env.scope.names.lookup x = some .free := hk
        rw [k] at this; cases this
end
section
variable {X : Cx} {pos : Pos}
def Uk (c : TT) (tb : TS) : TS := fun D σ H => ∃ W : Nat → St → Hp → Prop, (∃ m, W m σ H) ∧ ∀ m σ H, W m σ H →
 c σ H fun b H1 => if b = true then ∃ N : St → Hp → Prop, (∀ σ' H', N σ' H' → ∃ m', m' < m ∧ W m' σ' H') ∧ tb { D with nx := N, ct := N, bk := D.nx } σ H1 else D.nx σ H1
theorem Ul {c : Expr} {body : List Stmt} {tc : TT} {tb : TS} (hp : PassesOwn (model X.prog X.w) X.A X.env X.xe) (hc : PT X c tc) (hb : PSs X body tb) : PS X (.While c body [] pos) (Uk tc tb) := by
 intro pins s σ H D I h
 obtain ⟨W, ⟨m0, w0⟩, turn⟩ := h
 refine wpAny_While (codeAny_whileLoop (fun n s' => ∃ σ' H', Inv X pins σ' H' s' ∧ W n σ' H') ?_ m0 ⟨σ, H, I, w0⟩)
 rintro n s1 ⟨σ1, H1, I1, w1⟩
 refine wpAny_passesOwn hp (thn (hc pins s1 σ1 H1 _ I1 (turn n σ1 H1 w1)) fun b s2 ⟨H2, I2, q2⟩ => ?_)
 cases b with
 | true =>
  obtain ⟨N, hN, q2⟩ := q2
  rw [if_pos rfl]
  refine wpAny_passesOwn hp (thn (hb pins s2 σ1 H2 _ I2 q2) fun f s3 q3 => ?_)
  cases f with
  | next =>
   obtain ⟨σ3, H3, I3, n3⟩ := q3
   obtain ⟨m', hm, w3⟩ := hN σ3 H3 n3
   exact ⟨m', hm, σ3, H3, I3, w3⟩
  | cont =>
   obtain ⟨σ3, H3, I3, n3⟩ := q3
   obtain ⟨m', hm, w3⟩ := hN σ3 H3 n3
   exact ⟨m', hm, σ3, H3, I3, w3⟩
  | brk => exact q3
  | ret v => exact q3
 | false =>
  rw [if_neg Bool.false_ne_true]
  exact wpAny_execs_nil ⟨σ1, H2, I2, q2⟩
end
structure It where
 go : Nat → Hp → Prop
 yld : Nat → Hp → V → Hp → Prop
 stop : Nat → Hp → Prop
def ck (X : Cx) (pins : List (Addr × Obj)) (H : Hp) (b : Addr) : Prop :=
 H b = none ∧ b ≠ X.env.locals ∧ b ∉ X.fs ∧ (b ∈ X.ex ∨ X.s₀.heap.objs.size ≤ b) ∧ (∀ x c, X.env.cells.lookup x = some c → c ≠ b) ∧ ∀ p ∈ X.pn ++ pins, p.1 ≠ b
theorem Inv.fpOk {X : Cx} {pins : List (Addr × Obj)} {σ : St} {H H' : Hp} {s : Shared} {b : Addr} (I : Inv X pins σ H s) (hb : s.heap.objs.size ≤ b) (hn : H' b = none) : ck X pins H' b := by
 refine ⟨hn, Nat.ne_of_gt (Nat.lt_of_lt_of_le I.lt hb), I.nofs hb, .inr (Nat.le_trans I.sz hb), fun x c e z => ?_, fun p hp z => ?_⟩
 · obtain ⟨v, q⟩ := I.cell x c e
   exact absurd (Nat.lt_of_lt_of_le q.lt (by rw [z]; exact hb)) (Nat.lt_irrefl _)
 · exact absurd (Nat.lt_of_lt_of_le (Heap.lt_size (I.pin p hp).1) (by rw [z]; exact hb)) (Nat.lt_irrefl _)
structure Turn (P : Program) (w : World) (K : PySem.W.Frag) (tg : Expr) (J : It) (fp : List Addr) (it : Addr) (tn : Nat → Heap → Prop) : Prop where
 mem : it ∈ fp
 obj : ∀ i h, tn i h → ∀ b ∈ fp, ∃ o, h.get? b = some o ∧ ∀ v, o.data ≠ .cell v
 keep : ∀ i h h', tn i h → (∀ b ∈ fp, ∀ o, h.get? b = some o → h'.get? b = some o) → tn i h'
 item : ∀ (X : Cx), X.prog = P → X.w = w → X.K = K → X.calm = true → ∀ (i : Nat) (pins : List (Addr × Obj)) (s : Shared) (σ : St) (H : Hp) (E : Value → Shared → Prop), Inv X pins σ H s → (∀ b ∈ fp, ck X pins H b) → tn i s.heap → J.go i H →
  wpAny (model P w) X.A (pyNext (.ref it)) (fun r s1 => ∃ u, r = some u ∧
   wpAny (model P w) X.A (letOwnedTupleGo tg (.ref it) u) (fun _ s2 => ∃ x H', Inv X pins σ H' s2 ∧ RelV x u ∧ J.yld i H x H' ∧ tn (i + 1) s2.heap ∧ ∀ b ∈ fp, H' b = none) E s1) E s
 done : ∀ (X : Cx), X.prog = P → X.w = w → X.K = K → X.calm = true → ∀ (i : Nat) (pins : List (Addr × Obj)) (s : Shared) (σ : St) (H : Hp) (E : Value → Shared → Prop), Inv X pins σ H s → (∀ b ∈ fp, ck X pins H b) → tn i s.heap → J.stop i H →
  wpAny (model P w) X.A (pyNext (.ref it)) (fun r s1 => r = none ∧ Inv X pins σ H s1) E s
 self : ∀ (A : Around) (i : Nat) (s : Shared) (Q : Value → Shared → Prop) (E : Value → Shared → Prop), tn i s.heap → Q (.ref it) s → wpAny (model P w) A (pyIter (.ref it)) Q E s
abbrev TI := St → Hp → (It → Hp → Prop) → Prop
def PIE (X : Cx) (pins : List (Addr × Obj)) (σ : St) (tg : Expr) (R : It → Hp → Prop) (itv : Value) (s2 : Shared) : Prop :=
 ∃ (it : Addr) (fp : List Addr) (tn : Nat → Heap → Prop) (J : It) (H' : Hp), itv = .ref it ∧ Inv X pins σ H' s2 ∧ Turn X.prog X.w X.K tg J fp it tn ∧ tn 0 s2.heap ∧ (∀ b ∈ fp, ck X pins H' b) ∧ R J H'
def PI (X : Cx) (tg iter : Expr) (wi : TI) : Prop :=
 ∀ (pins : List (Addr × Obj)) (s : Shared) (σ : St) (H : Hp) (R : It → Hp → Prop), Inv X pins σ H s → wi σ H R →
  wpAny (model X.prog X.w) X.A (eval iter X.env) (fun v s1 => wpAny (model X.prog X.w) X.A (pyIter v) (PIE X pins σ tg R) X.xe s1) X.xe s
theorem ip {M : Model} {A : Around} {E : Value → Shared → Prop} {s : Shared} {tg : Expr} {it : Addr} {u : Value} {o : Obj} {n : String} {vs : Array Value} {Q : Unit → Shared → Prop} (ho : s.heap.get? it = some o) (hc : o.cls = .type n) (hd : o.data = .fields vs)
    (hn : ["enumerate", "zip", "dict_itemiterator", "dict_reverseitemiterator", "odict_iterator", "itertools.zip_longest", "itertools.pairwise"].contains n = false) (hQ : Q () s) : wpAny M A (letOwnedTupleGo tg (.ref it) u) Q E s := by
  unfold letOwnedTupleGo
  cases tg <;> first
    | exact wpAny_pure hQ
    | (cases u <;> first
        | exact wpAny_pure hQ
        | (refine wpAny_bind (wpAny_load ho ?_)
           rw [hc, hd]
           show wpAny M A (if (["enumerate", "zip", "dict_itemiterator", "dict_reverseitemiterator", "odict_iterator", "itertools.zip_longest", "itertools.pairwise"].contains n && vs[0]? == some (rawInt _)) = true then _ else _) Q E s
           rw [if_neg (by intro h; rw [hn, Bool.false_and] at h; cases h)]
           exact wpAny_pure hQ))
def Itl (K : PySem.W.Frag) (a : Addr) : It :=
 ⟨fun i H => ∃ xs x, SqL K H a xs ∧ xs[i]? = some x, fun i H x H' => H' = H ∧ ∀ xs, SqL K H a xs → xs[i]? = some x, fun i H => ∃ xs, SqL K H a xs ∧ xs.length ≤ i⟩
def Itt (K : PySem.W.Frag) (a : Addr) : It :=
 ⟨fun i H => ∃ xs x, SqT K H a xs ∧ xs[i]? = some x, fun i H x H' => H' = H ∧ ∀ xs, SqT K H a xs → xs[i]? = some x, fun i H => ∃ xs, SqT K H a xs ∧ xs.length ≤ i⟩
def Itr (lo : Int) (n : Nat) : It := ⟨fun i _ => i < n, fun i H x H' => H' = H ∧ x = .int (lo + i), fun i _ => n ≤ i⟩
theorem um {P : Program} {w : World} {K : PySem.W.Frag} {tg : Expr} (a it : Addr) : Turn P w K tg (Itl K a) [it] it (fun i h => h.IsListIter it a i) where
 mem := by simp
 obj := fun i h st b hb => by
  have e : b = it := by simpa using hb
  subst e
  obtain ⟨o, e, c, d⟩ := st
  exact ⟨o, e, fun v z => by rw [d] at z; cases z⟩
 keep := fun i h h' st k => st.at fun o e => k it (by simp) o e
 item := by
  intro X hP hw hK hc i pins s σ H E I hf st hg
  subst hP hw hK
  obtain ⟨xs, x, hq, hx⟩ := hg
  obtain ⟨its, rv, p, hz⟩ := I.list hq
  obtain ⟨u, hu, ru⟩ := rv.get hx
  obtain ⟨f0, f1, f2, f3, f4, f5⟩ := hf it (by simp)
  refine wpAny_pyNext_list_item st p.isList (x := u) (by simpa using hu) fun h' st' sb => ?_
  have I1 : Inv X pins σ H { s with heap := h' } := I.turned (t' := s.toks) (fun b o hb e => (sb.2 b hb).trans e) f0 f1 f3 f4 f5
  obtain ⟨o, e, c, d⟩ := id st'
  exact ⟨u, rfl, ip (s := { s with heap := h' }) e c d (by decide) ⟨x, H, I1, ru, ⟨rfl, fun ys hy => by rw [I.list_inj hy hq]; exact hx⟩, st', fun b hb => (hf b hb).1⟩⟩
 done := by
  intro X hP hw hK hc i pins s σ H E I hf st hg
  subst hP hw hK
  obtain ⟨xs, hq, hx⟩ := hg
  obtain ⟨its, rv, p, hz⟩ := I.list hq
  obtain ⟨f0, f1, f2, f3, f4, f5⟩ := hf it (by simp)
  have hl := rv.length
  exact wpAny_pyNext_list_end (I.ok.hd hc) st p.isList (by simp; omega) fun h' eb => ⟨rfl, I.turned (t' := s.toks) (fun b o hb e => eb b o hb e) f0 f1 f3 f4 f5⟩
 self := fun _ _ _ _ _ st h => wpAny_pyIter_listiter st h
theorem Um {P : Program} {w : World} {K : PySem.W.Frag} {tg : Expr} (a it : Addr) : Turn P w K tg (Itt K a) [it] it (fun i h => h.IsTupleIter it a i) where
 mem := by simp
 obj := fun i h st b hb => by
  have e : b = it := by simpa using hb
  subst e
  obtain ⟨o, e, c, d⟩ := st
  exact ⟨o, e, fun v z => by rw [d] at z; cases z⟩
 keep := fun i h h' st k => st.at fun o e => k it (by simp) o e
 item := by
  intro X hP hw hK hc i pins s σ H E I hf st hg
  subst hP hw hK
  obtain ⟨xs, x, hq, hx⟩ := hg
  obtain ⟨its, rv, p, hz⟩ := I.tuple hq
  obtain ⟨u, hu, ru⟩ := rv.get hx
  obtain ⟨f0, f1, f2, f3, f4, f5⟩ := hf it (by simp)
  refine wpAny_pyNext_tuple_item st (show s.heap.IsTuple a its.toArray from p) (x := u) (by simpa using hu) fun h' st' sb => ?_
  have I1 : Inv X pins σ H { s with heap := h' } := I.turned (t' := s.toks) (fun b o hb e => (sb.2 b hb).trans e) f0 f1 f3 f4 f5
  obtain ⟨o, e, c, d⟩ := id st'
  exact ⟨u, rfl, ip (s := { s with heap := h' }) e c d (by decide) ⟨x, H, I1, ru, ⟨rfl, fun ys hy => by rw [I.tuple_inj hy hq]; exact hx⟩, st', fun b hb => (hf b hb).1⟩⟩
 done := by
  intro X hP hw hK hc i pins s σ H E I hf st hg
  subst hP hw hK
  obtain ⟨xs, hq, hx⟩ := hg
  obtain ⟨its, rv, p, hz⟩ := I.tuple hq
  obtain ⟨f0, f1, f2, f3, f4, f5⟩ := hf it (by simp)
  have hl := rv.length
  exact wpAny_pyNext_tuple_end (I.ok.hd hc) st (show s.heap.IsTuple a its.toArray from p) (by simp; omega) fun h' eb => ⟨rfl, I.turned (t' := s.toks) (fun b o hb e => eb b o hb e) f0 f1 f3 f4 f5⟩
 self := fun _ _ _ _ _ st h => wpAny_pyIter_tupleiter st h
theorem uo {P : Program} {w : World} {K : PySem.W.Frag} {tg : Expr} (it : Addr) (lo : Int) (n : Nat) : Turn P w K tg (Itr lo n) [it] it (fun i h => IsRangeIter h it (lo + (i : Nat) * 1) ((n : Int) - (i : Nat)) 1) where
 mem := by simp
 obj := fun i h st b hb => by
  have e : b = it := by simpa using hb
  subst e
  exact ⟨_, st, fun v z => by
   have z' : Data.fields _ = Data.cell v := z
   cases z'⟩
 keep := fun i h h' st k => k it (by simp) _ st
 item := by
  intro X hP hw hK hc i pins s σ H E I hf st hg
  subst hP hw hK
  obtain ⟨f0, f1, f2, f3, f4, f5⟩ := hf it (by simp)
  have W := Walks.range (prog := X.prog) (w := X.w) (I.ok.hd hc) it lo 1 n
  refine W.item i s _ _ hg st fun v h' tk hv st' kk => ?_
  obtain ⟨t, rfl⟩ := hv
  have I1 : Inv X pins σ H { s with heap := h', toks := tk } := I.turned (fun b o hb e => kk b o (by simpa using hb) e) f0 f1 f3 f4 f5
  refine ⟨_, rfl, ip (s := { s with heap := h', toks := tk }) (n := "range_iterator") st' rfl rfl (by decide) ⟨.int (lo + i), H, I1, ⟨t, ?_⟩, ⟨rfl, rfl⟩, st', fun b hb => (hf b hb).1⟩⟩
  rw [Int.mul_one]
 done := by
  intro X hP hw hK hc i pins s σ H E I hf st hg
  subst hP hw hK
  obtain ⟨f0, f1, f2, f3, f4, f5⟩ := hf it (by simp)
  exact wpAny_pyNext_range_end (I.ok.hd hc) st (by have : n ≤ i := hg; omega) fun h' eb => ⟨rfl, I.turned (t' := s.toks) (fun b o hb e => eb b o hb e) f0 f1 f3 f4 f5⟩
 self := fun _ _ _ _ _ st h => wpAny_pyIter_rangeiter st h
end L2
namespace L2
open PySem PySem.Spec PyProof.Rows
section
variable {X : Cx} {tg : Expr}
def Uo (K : PySem.W.Frag) (tl : TE) : TI := fun σ H R => tl σ H fun x H1 => ∃ a, x = .ref a ∧ (∃ xs, SqL K H1 a xs) ∧ R (Itl K a) H1
def Up (K : PySem.W.Frag) (tl : TE) : TI := fun σ H R => tl σ H fun x H1 => ∃ a, x = .ref a ∧ (∃ xs, SqT K H1 a xs) ∧ R (Itt K a) H1
theorem Mw {l : Expr} {tl : TE} (hl : PE X l tl) : PI X tg l (Uo X.K tl) := by
 intro pins s σ H R I h
 refine thn (hl pins s σ H _ I h) fun v s1 ⟨x, H1, I1, r1, q1⟩ => ?_
 obtain ⟨a, e, ⟨xs, hq⟩, q⟩ := q1
 subst e
 cases r1
 obtain ⟨its, rv, p, hz⟩ := I1.list hq
 refine wpAny_pyIter_list p.isList ?_
 refine ⟨s1.heap.objs.size, [s1.heap.objs.size], _, _, H1, rfl, I1.kept (t' := s1.toks) fun b o e => Heap.get?_push_of_some _ e, um a _, ⟨_, Heap.get?_push_size _ rfl, rfl, rfl⟩, fun b hb => ?_, q⟩
 have e : b = s1.heap.objs.size := by simpa using hb
 subst e
 exact I1.fpOk (Nat.le_refl _) (I1.hok.fresh (Nat.le_refl _))
theorem mx {l : Expr} {tl : TE} (hl : PE X l tl) : PI X tg l (Up X.K tl) := by
 intro pins s σ H R I h
 refine thn (hl pins s σ H _ I h) fun v s1 ⟨x, H1, I1, r1, q1⟩ => ?_
 obtain ⟨a, e, ⟨xs, hq⟩, q⟩ := q1
 subst e
 cases r1
 obtain ⟨its, rv, p, hz⟩ := I1.tuple hq
 refine wpAny_pyIter_tuple (show s1.heap.IsTuple a its.toArray from p) ?_
 refine ⟨s1.heap.objs.size, [s1.heap.objs.size], _, _, H1, rfl, I1.kept (t' := s1.toks) fun b o e => Heap.get?_push_of_some _ e, Um a _, ⟨_, Heap.get?_push_size _ rfl, rfl, rfl⟩, fun b hb => ?_, q⟩
 have e : b = s1.heap.objs.size := by simpa using hb
 subst e
 exact I1.fpOk (Nat.le_refl _) (I1.hok.fresh (Nat.le_refl _))
theorem uq {pins : List (Addr × Obj)} {σ : St} {H : Hp} {s : Shared} {R : It → Hp → Prop} {E : Value → Shared → Prop} {lo hi : Int} {t u v : Tok} {tk : Nat} (I : Inv X pins σ H s) (h1 : -(2 ^ 62) ≤ lo) (h2 : lo < 2 ^ 62) (h3 : -(2 ^ 62) ≤ hi) (h4 : hi < 2 ^ 62)
    (q : R (Itr lo (hi - lo).toNat) H) : wpAny (model X.prog X.w) X.A (pyIter (.ref s.heap.objs.size)) (PIE X pins σ tg R) E { s with heap := s.heap.push { cls := .type "range", data := .fields #[.int lo t, .int hi u, .int 1 v] }, toks := tk } := by
  refine wpAny_pyIter_range (IsRange.new ..) (small_one h1 h2 h3 h4) ?_
  have I1 : Inv X pins σ H { s with heap := s.heap.push { cls := .type "range", data := .fields #[.int lo t, .int hi u, .int 1 v] }, toks := tk } := I.kept fun b o e => Heap.get?_push_of_some _ e
  refine ⟨(s.heap.push { cls := .type "range", data := .fields #[.int lo t, .int hi u, .int 1 v] }).objs.size, [(s.heap.push { cls := .type "range", data := .fields #[.int lo t, .int hi u, .int 1 v] }).objs.size], _, _, H, rfl,
    I1.kept (t' := tk) fun b o e => Heap.get?_push_of_some _ e, uo _ lo (hi - lo).toNat, ?_, fun b hb => ?_, q⟩
  · have e1 : lo + ((0 : Nat) : Int) * 1 = lo := by simp
    have e2 : (((hi - lo).toNat : Nat) : Int) - ((0 : Nat) : Int) = Builtin.Range.rangeSize lo hi 1 := by rw [rangeSize_one]; split <;> omega
    show IsRangeIter _ _ (lo + ((0 : Nat) : Int) * 1) ((((hi - lo).toNat : Nat) : Int) - ((0 : Nat) : Int)) 1
    rw [e1, e2]
    exact Heap.get?_push_size _ rfl
  · have e : b = (s.heap.push { cls := .type "range", data := .fields #[.int lo t, .int hi u, .int 1 v] }).objs.size := by simpa using hb
    subst e
    exact I1.fpOk (Nat.le_refl _) (I1.hok.fresh (Nat.le_refl _))
def Uq (ta : TA) : TI := fun σ H R => ta σ H fun vs H1 => ∃ j : Int, vs = [.int j] ∧ -(2 ^ 62) ≤ j ∧ j < 2 ^ 62 ∧ R (Itr 0 j.toNat) H1
theorem ur {a : Expr} {ta : TA} {p pos : Pos} (hg : Gl X "range") (hm : X.mg "range" = none) (ha : PA X [a] ta) (hs : starEach [a] X.env = [(false, eval a X.env)] := by rfl) : PI X tg (.Call (.Name "range" p) [a] [] pos) (Uq ta) := by
 intro pins s σ H R I h
 refine Call_ (fk I hg hm boot_range (PyProof.Rows.callWith_type1 (thn (ha pos pins s σ H _ I h) fun us s1 ⟨vs, H1, I1, r1, q1⟩ => ?_) hs rfl))
 obtain ⟨j, e, q1, q2, q⟩ := q1
 subst e
 cases r1 with
 | cons r rr =>
  cases rr
  obtain ⟨t, rfl⟩ := r
  exact call_range_1 (uq I1 (by omega) (by omega) q1 q2 (by simpa using q))
def Ur (wi : TI) (g : TG) (tb : TS) : TS := fun D σ H => wi σ H fun J H1 => ∃ W : Nat → Nat → St → Hp → Prop, (∃ m, W 0 m σ H1) ∧ ∀ i m σ H, W i m σ H →
 (J.stop i H ∧ D.nx σ H) ∨ (J.go i H ∧ ∃ N : St → Hp → Prop, (∀ σ' H', N σ' H' → ∃ m', m' < m ∧ W (i + 1) m' σ' H') ∧ ∀ x H', J.yld i H x H' → g x σ H' fun σ2 H2 => tb { D with nx := N, ct := N, bk := D.nx } σ2 H2)
def Gp (fp : List Addr) (h : Heap) : List (Addr × Obj) := fp.filterMap fun b => (h.get? b).map fun o => (b, o)
theorem gq {fp : List Addr} {h : Heap} {b : Addr} {o : Obj} (hb : b ∈ fp) (e : h.get? b = some o) : (b, o) ∈ Gp fp h := List.mem_filterMap.mpr ⟨b, hb, by rw [e]; rfl⟩
theorem Us {fp : List Addr} {h : Heap} {p : Addr × Obj} (hp : p ∈ Gp fp h) : p.1 ∈ fp ∧ h.get? p.1 = some p.2 := by
 obtain ⟨b, hb, e⟩ := List.mem_filterMap.mp hp
 cases q : h.get? b with
 | none => rw [q] at e; cases e
 | some o =>
  rw [q] at e
  have e' : (b, o) = p := Option.some.inj e
  subst e'
  exact ⟨hb, q⟩
theorem Inv.pinned {pins : List (Addr × Obj)} {σ : St} {H : Hp} {s : Shared} {fp : List Addr} (I : Inv X pins σ H s) (hf : ∀ b ∈ fp, ck X pins H b) (ho : ∀ b ∈ fp, ∃ o, s.heap.get? b = some o ∧ ∀ v, o.data ≠ .cell v) : Inv X (pins ++ Gp fp s.heap) σ H s :=
 I.pins_of fun p hp => (List.mem_append.mp hp).elim (fun z => I.pin p (List.mem_append_right _ z)) fun z => by
  obtain ⟨hb, e⟩ := Us z
  obtain ⟨f0, f1, f2, _⟩ := hf p.1 hb
  obtain ⟨o, e', d⟩ := ho p.1 hb
  rw [e] at e'; cases e'
  exact ⟨e, f0, f1, f2, d⟩
theorem Inv.unpinned {pins pl : List (Addr × Obj)} {σ : St} {H : Hp} {s : Shared} (I : Inv X (pins ++ pl) σ H s) : Inv X pins σ H s := I.pins_of fun p hp => I.pin p (List.mem_append_right _ (List.mem_append_left _ hp))
theorem Ip {iter : Expr} {body : List Stmt} {wi : TI} {g : TG} {tb : TS} {pos : Pos} (hp : PassesOwn (model X.prog X.w) X.A X.env X.xe) (hc : X.calm = true) (hi : PI X tg iter wi) (hg : PG X tg g) (hb : PSs X body tb)
    (hs : ∀ x, foldedSetIterable iter X.env x = pure x := by intro _; rfl) : PS X (.For tg iter body [] pos) (Ur wi g tb) := by
  intro pins s σ H D I h
  refine wpAny_For (thn (hi pins s σ H _ I h) fun v s1 h1 => thn h1 fun itv s2 h2 => ?_) hs
  obtain ⟨it, fp, tn, J, H2, e, I2, T, st2, f2, W, ⟨m0, w0⟩, turn⟩ := h2
  subst e
  have stat : ∀ {H' : Hp}, (∀ b ∈ fp, H' b = none) → ∀ b ∈ fp, ck X pins H' b := fun hn b hb => ⟨hn b hb, (f2 b hb).2⟩
  refine codeAny_forLoop_any (fun n s' => ∃ i σ' H', Inv X pins σ' H' s' ∧ tn i s'.heap ∧ (∀ b ∈ fp, H' b = none) ∧ W i n σ' H') ?_ m0 ⟨0, σ, H2, I2, st2, fun b hb => (f2 b hb).1, w0⟩
  rintro n s3 ⟨i, σ3, H3, I3, st3, fr3, w3⟩
  rcases turn i n σ3 H3 w3 with ⟨stop, qn⟩ | ⟨go, N, hN, step⟩
  · refine wpAny_passesOwn hp (thn (T.done X rfl rfl rfl hc i pins s3 σ3 H3 X.xe I3 (stat fr3) st3 stop) fun r s4 ⟨hr, I4⟩ => ?_)
    subst hr
    exact wpAny_execs_nil ⟨σ3, H3, I4, qn⟩
  · refine wpAny_passesOwn hp (thn (T.item X rfl rfl rfl hc i pins s3 σ3 H3 X.xe I3 (stat fr3) st3 go) fun r s4 ⟨u, hr, h4⟩ => ?_)
    subst hr
    refine wpAny_passesOwn hp (thn h4 fun _ s5 ⟨x, H5, I5, r5, y5, st5, fr5⟩ => ?_)
    have I5' := I5.pinned (stat fr5) (T.obj _ _ st5)
    refine wpAny_passesOwn hp (thn (hg _ s5 σ3 H5 x u _ I5' r5 (step x H5 y5)) fun _ s6 ⟨σ6, H6, I6, q6⟩ => ?_)
    refine wpAny_passesOwn hp (thn (hb _ s6 σ6 H6 _ I6 q6) fun f s7 q7 => ?_)
    have again : ∀ {σ7 : St} {H7 : Hp}, Inv X (pins ++ Gp fp s5.heap) σ7 H7 s7 → N σ7 H7 → ∃ m, m < n ∧ ∃ i σ' H', Inv X pins σ' H' s7 ∧ tn i s7.heap ∧ (∀ b ∈ fp, H' b = none) ∧ W i m σ' H' := fun {σ7 H7} I7 n7 => by
      obtain ⟨m', hm, w7⟩ := hN σ7 H7 n7
      refine ⟨m', hm, i + 1, σ7, H7, I7.unpinned, T.keep _ _ _ st5 fun b hb o e => (I7.pin (b, o) (List.mem_append_right _ (List.mem_append_right _ (gq hb e)))).1, fun b hb => ?_, w7⟩
      obtain ⟨o, e, d⟩ := T.obj _ _ st5 b hb
      exact (I7.pin (b, o) (List.mem_append_right _ (List.mem_append_right _ (gq hb e)))).2.1
    cases f with
    | next => obtain ⟨σ7, H7, I7, n7⟩ := q7; exact again I7 n7
    | cont => obtain ⟨σ7, H7, I7, n7⟩ := q7; exact again I7 n7
    | brk => obtain ⟨σ7, H7, I7, q7⟩ := q7; exact ⟨σ7, H7, I7.unpinned, q7⟩
    | ret v => obtain ⟨x7, σ7, H7, I7, r7, q7⟩ := q7; exact ⟨x7, σ7, H7, I7.unpinned, r7, q7⟩
end
end L2
namespace L2
open PySem PySem.Spec PyProof.Rows
abbrev R2 := V → V → Hp → VK → Prop
def OpR (X : Cx) (f : Value → Value → Sem Value) (r : R2) : Prop :=
 ∀ (pins : List (Addr × Obj)) (s : Shared) (σ : St) (H : Hp) (x y : V) (v u : Value) (Q : VK), Inv X pins σ H s → RelV x v → RelV y u → r x y H Q →
  wpAny (model X.prog X.w) X.A (f v u) (EP X pins σ Q) X.xe s
def UnR (X : Cx) (f : Value → Sem Value) (r : V → Hp → VK → Prop) : Prop :=
 ∀ (pins : List (Addr × Obj)) (s : Shared) (σ : St) (H : Hp) (x : V) (v : Value) (Q : VK), Inv X pins σ H s → RelV x v → r x H Q →
  wpAny (model X.prog X.w) X.A (f v) (EP X pins σ Q) X.xe s
def cu (X : Cx) (f : Value) (r : List V → Hp → VK → Prop) : Prop :=
 ∀ (pins : List (Addr × Obj)) (s : Shared) (σ : St) (H : Hp) (xs : List V) (us : List Value) (Q : VK), Inv X pins σ H s → Vals xs us → r xs H Q →
  wpAny (model X.prog X.w) X.A (call f us) (EP X pins σ Q) X.xe s
def Ut (X : Cx) (r : V → Hp → (Bool → Hp → Prop) → Prop) : Prop :=
 ∀ (pins : List (Addr × Obj)) (s : Shared) (σ : St) (H : Hp) (x : V) (v : Value) (Q : Bool → Hp → Prop), Inv X pins σ H s → RelV x v → r x H Q →
  wpAny (model X.prog X.w) X.A (truthy v) (TP X pins σ Q) X.xe s
def tOp (r : R2) (ta tb : TE) : TE := fun σ H Q => ta σ H fun x H1 => tb σ H1 fun y H2 => r x y H2 Q
def tUn (r : V → Hp → VK → Prop) (ta : TE) : TE := fun σ H Q => ta σ H fun x H1 => r x H1 Q
def rI (C : Int → Int → Prop) (g : Int → Int → V) : R2 := fun x y H Q => ∃ i j, x = .int i ∧ y = .int j ∧ C i j ∧ Q (g i j) H
def rI0 (g : Int → Int → V) : R2 := fun x y H Q => ∃ i j, x = .int i ∧ y = .int j ∧ Q (g i j) H
def rU (g : Int → V) : V → Hp → VK → Prop := fun x H Q => ∃ i, x = .int i ∧ Q (g i) H
section
variable {X : Cx} {a b c : Expr} {ta tb tc : TE} {pos : Pos}
theorem Kh (ha : PE X a ta) (hb : PE X b tb) {pins : List (Addr × Obj)} {s : Shared} {σ : St} {H : Hp} {R : V → V → Hp → Prop} (I : Inv X pins σ H s)
    (h : ta σ H fun x H1 => tb σ H1 fun y H2 => R x y H2) {Q : Value → Shared → Prop} {f : Value → Value → Sem Value}
    (hf : ∀ v u s2 x y H2, Inv X pins σ H2 s2 → RelV x v → RelV y u → R x y H2 → wpAny (model X.prog X.w) X.A (f v u) Q X.xe s2) :
    wpAny (model X.prog X.w) X.A (eval a X.env) (fun v s₁ => wpAny (model X.prog X.w) X.A (eval b X.env) (fun u s₂ => wpAny (model X.prog X.w) X.A (f v u) Q X.xe s₂) X.xe s₁) X.xe s := by
  refine thn (ha pins s σ H _ I h) fun v s1 ⟨x, H1, I1, r1, q1⟩ => ?_
  refine thn (hb pins s1 σ H1 _ I1 q1) fun u s2 ⟨y, H2, I2, r2, q2⟩ => ?_
  exact hf v u s2 x y H2 I2 r1 r2 q2
theorem Gq {op : Operator} {r : R2} (ho : OpR X (binaryOp op) r) (ha : PE X a ta) (hb : PE X b tb) : PE X (.BinOp a op b pos) (tOp r ta tb) := by
 intro pins s σ H Q I h
 exact wpAny_BinOp (Kh ha hb I h fun v u s2 x y H2 I2 rx ry q => ho pins s2 σ H2 x y v u Q I2 rx ry q)
theorem Uu {op : UnaryOp} {r : V → Hp → VK → Prop} (ho : UnR X (unaryOp op) r) (ha : PE X a ta) : PE X (.UnaryOp op a pos) (tUn r ta) := by
 intro pins s σ H Q I h
 exact UnaryOp_ (thn (ha pins s σ H _ I h) fun v s1 ⟨x, H1, I1, r1, q1⟩ => ho pins s1 σ H1 x v Q I1 r1 q1)
theorem opI {f : Value → Value → Sem Value} {C : Int → Int → Prop} {g : Int → Int → Int}
    (rule : ∀ (i j : Int) (t u : Tok) (s : Shared) (Q : Value → Shared → Prop) (E : Value → Shared → Prop), C i j → Q (.int (g i j) s.toks) { s with toks := s.toks + 1 } → wpAny (model X.prog X.w) X.A (f (.int i t) (.int j u)) Q E s) :
    OpR X f (rI C fun i j => .int (g i j)) := by
  intro pins s σ H x y v u Q I rx ry h
  obtain ⟨i, j, rfl, rfl, hc, q⟩ := h
  obtain ⟨t, rfl⟩ := rx
  obtain ⟨t', rfl⟩ := ry
  exact rule i j t t' s _ _ hc ⟨.int (g i j), H, I.tok _, ⟨_, rfl⟩, q⟩
theorem Mx {f : Value → Value → Sem Value} {g : Int → Int → Int}
    (rule : ∀ (i j : Int) (t u : Tok) (s : Shared) (Q : Value → Shared → Prop) (E : Value → Shared → Prop), Q (.int (g i j) s.toks) { s with toks := s.toks + 1 } → wpAny (model X.prog X.w) X.A (f (.int i t) (.int j u)) Q E s) :
    OpR X f (rI0 fun i j => .int (g i j)) := by
  intro pins s σ H x y v u Q I rx ry h
  obtain ⟨i, j, rfl, rfl, q⟩ := h
  obtain ⟨t, rfl⟩ := rx
  obtain ⟨t', rfl⟩ := ry
  exact rule i j t t' s _ _ ⟨.int (g i j), H, I.tok _, ⟨_, rfl⟩, q⟩
theorem iq {f : Value → Value → Sem Value} {g : Int → Int → Bool}
    (rule : ∀ (i j : Int) (t u : Tok) (s : Shared) (Q : Value → Shared → Prop) (E : Value → Shared → Prop), Q (.bool (g i j)) s → wpAny (model X.prog X.w) X.A (f (.int i t) (.int j u)) Q E s) :
    OpR X f (rI0 fun i j => .bl (g i j)) := by
  intro pins s σ H x y v u Q I rx ry h
  obtain ⟨i, j, rfl, rfl, q⟩ := h
  obtain ⟨t, rfl⟩ := rx
  obtain ⟨t', rfl⟩ := ry
  exact rule i j t t' s _ _ ⟨.bl (g i j), H, I, rfl, q⟩
def uv (i j : Int) : Prop := 0 ≤ j ∧ j ≤ 1000000 ∧ i.natAbs < 2 ^ 64
def my (i j : Int) : Prop := (-(2 ^ 64) < i ∧ i < 2 ^ 64) ∨ (-(2 ^ 64) < j ∧ j < 2 ^ 64)
theorem my.ok {i j : Int} (h : my i j) : IntMulOk i j := by
 rcases h with ⟨h1, h2⟩ | ⟨h1, h2⟩
 · exact .of_left (intBits_le_64 h1 h2)
 · exact .of_right (intBits_le_64 h1 h2)
theorem Uv : OpR X (binaryOp .Add) (rI0 fun i j => .int (i + j)) := Mx fun _ _ _ _ _ _ _ q => add_int q
theorem uw : OpR X (binaryOp .Sub) (rI0 fun i j => .int (i - j)) := Mx fun _ _ _ _ _ _ _ q => sub_int q
theorem Uw : OpR X (binaryOp .Mod) (rI (fun _ j => j ≠ 0) fun i j => .int (i.fmod j)) := opI fun _ _ _ _ _ _ _ hc q => mod_int' hc q
theorem ux : OpR X (binaryOp .Pow) (rI uv fun i j => .int (i ^ j.toNat)) := opI fun _ _ _ _ _ _ _ hc q => pow_int_small hc.1 hc.2.1 hc.2.2 q
theorem unI {f : Value → Sem Value} {g : Int → Int}
    (rule : ∀ (i : Int) (t : Tok) (s : Shared) (Q : Value → Shared → Prop) (E : Value → Shared → Prop), Q (.int (g i) s.toks) { s with toks := s.toks + 1 } → wpAny (model X.prog X.w) X.A (f (.int i t)) Q E s) :
    UnR X f (rU fun i => .int (g i)) := by
  intro pins s σ H x v Q I rx h
  obtain ⟨i, rfl, q⟩ := h
  obtain ⟨t, rfl⟩ := rx
  exact rule i t s _ _ ⟨.int (g i), H, I.tok _, ⟨_, rfl⟩, q⟩
theorem Ux : UnR X (unaryOp .USub) (rU fun i => .int (-i)) := unI fun _ _ _ _ _ q => neg_int q
end
section
variable {X : Cx} {a b c : Expr} {ta tb tc : TE} {pos : Pos}
theorem Iq {pins : List (Addr × Obj)} {σ : St} {H : Hp} {s : Shared} {Q : VK} {k k' : Bool} (I : Inv X pins σ H s) (q : Q (.bl k) H) (e : k = k') : EP X pins σ Q (.bool k') s := by
 subst e
 exact ⟨.bl k, H, I, rfl, q⟩
theorem mz : OpR X (compareOp .Lt) (rI0 fun i j => .bl (decide (i < j))) := iq fun _ _ _ _ _ _ _ q => lt_int q
theorem uy : OpR X (compareOp .LtE) (rI0 fun i j => .bl (decide (i ≤ j))) := iq fun _ _ _ _ _ _ _ q => le_int q
theorem Mz : OpR X (compareOp .Gt) (rI0 fun i j => .bl (decide (j < i))) := iq fun _ _ _ _ _ _ _ q => gt_int q
theorem Na : OpR X (compareOp .GtE) (rI0 fun i j => .bl (decide (j ≤ i))) := iq fun _ _ _ _ _ _ _ q => ge_int q
theorem Uy : OpR X (compareOp .In) (fun x y H Q => ∃ i j, x = .str i ∧ y = .str j ∧ Q (.bl (!(Builtin.Str.occurrences j i 0 j.length 1).isEmpty)) H) := by
 intro pins s σ H x y v u Q I rx ry h
 obtain ⟨i, j, rfl, rfl, q⟩ := h
 obtain ⟨t, rfl⟩ := rx
 obtain ⟨t', rfl⟩ := ry
 exact in_str (Iq I q rfl)
theorem uz : OpR X (compareOp .Is) (fun x y H Q => y = .non ∧ Q (.bl (decide (x = .non))) H) := by
 intro pins s σ H x y v u Q I rx ry h
 obtain ⟨rfl, q⟩ := h
 cases ry
 refine is_none_gen (Iq I q ?_)
 cases x <;> first
  | (cases rx; rfl)
  | (obtain ⟨t, rfl⟩ := rx; rfl)
theorem Uz : OpR X (compareOp .IsNot) (fun x y H Q => y = .non ∧ Q (.bl (!decide (x = .non))) H) := by
 intro pins s σ H x y v u Q I rx ry h
 obtain ⟨rfl, q⟩ := h
 cases ry
 refine isnot_none_gen (Iq I q ?_)
 cases x <;> first
  | (cases rx; rfl)
  | (obtain ⟨t, rfl⟩ := rx; rfl)
theorem va : OpR X (compareOp .NotIn) (fun x y H Q => ∃ i j, x = .str i ∧ y = .str j ∧ Q (.bl (!(!(Builtin.Str.occurrences j i 0 j.length 1).isEmpty))) H) := by
 intro pins s σ H x y v u Q I rx ry h
 obtain ⟨i, j, rfl, rfl, q⟩ := h
 obtain ⟨t, rfl⟩ := rx
 obtain ⟨t', rfl⟩ := ry
 exact notIn_str (Iq I q rfl)
theorem OpR.or {f : Value → Value → Sem Value} {r r' : R2} (h : OpR X f r) (h' : OpR X f r') : OpR X f (fun x y H Q => r x y H Q ∨ r' x y H Q) := by
 intro pins s σ H x y v u Q I rx ry q
 rcases q with q | q
 · exact h pins s σ H x y v u Q I rx ry q
 · exact h' pins s σ H x y v u Q I rx ry q
theorem Eo (b : Expr) {op : CmpOp} (h : op ≠ .In := by decide) (h2 : op ≠ .NotIn := by decide) : behindInMarks op b = false := by
 have e1 : (op == CmpOp.In) = false := by cases op <;> first | rfl | exact absurd rfl h
 have e2 : (op == CmpOp.NotIn) = false := by cases op <;> first | rfl | exact absurd rfl h2
 cases b <;> simp [behindInMarks, e1, e2]
theorem ki {op : CmpOp} {r : R2} (ho : OpR X (compareOp op) r) (ha : PE X a ta) (hb : PE X b tb) (hm : behindInMarks op b = false) : PE X (.Compare a [op] [b] pos) (tOp r ta tb) := by
 intro pins s σ H Q I h
 exact wpAny_Compare1 (Kh ha hb I h fun v u s2 x y H2 I2 rx ry q => ho pins s2 σ H2 x y v u Q I2 rx ry q) hm
def Nb (t : TE) : TT := fun σ H Q => t σ H fun x H' => ∃ k, x = .bl k ∧ Q k H'
theorem Ep {op : CmpOp} {r : R2} (ho : OpR X (compareOp op) r) (ha : PE X a ta) (hb : PE X b tb) (hm : behindInMarks op b = false) : PT X (.Compare a [op] [b] pos) (Nb (tOp r ta tb)) := by
 intro pins s σ H Q I h
 refine wpAny_isTrue_Compare1 (thn (ha pins s σ H _ I h) fun v s1 ⟨x, H1, I1, r1, q1⟩ => thn (hb pins s1 σ H1 _ I1 q1) fun u s2 ⟨y, H2, I2, r2, q2⟩ =>
  thn (ho pins s2 σ H2 x y v u _ I2 r1 r2 q2) fun c s3 ⟨z, H3, I3, r3, k, e, q3⟩ => ?_) hm
 subst e
 cases r3
 exact wpAny_truthy_bool ⟨H3, I3, q3⟩
def Ki (r r' : R2) (ta tb tc : TE) : TE := fun σ H Q => ta σ H fun x H1 => tb σ H1 fun y H2 => r x y H2 fun z H3 => ∃ k, z = .bl k ∧
 (if k = true then tc σ H3 fun w' H4 => r' y w' H4 Q else Q (.bl false) H3)
theorem Va {op op' : CmpOp} {r r' : R2} (ho : OpR X (compareOp op) r) (ho' : OpR X (compareOp op') r') (ha : PE X a ta) (hb : PE X b tb) (hc : PE X c tc)
    (hm : lastMarks [op, op'] [b, c] = false := by with_unfolding_all rfl) : PE X (.Compare a [op, op'] [b, c] pos) (Ki r r' ta tb tc) := by
  intro pins s σ H Q I h
  refine Compare_chain (thn (ha pins s σ H _ I h) fun v s1 ⟨x, H1, I1, r1, q1⟩ => chain_link (thn (hb pins s1 σ H1 _ I1 q1) fun u s2 ⟨y, H2, I2, r2, q2⟩ =>
    thn (ho pins s2 σ H2 x y v u _ I2 r1 r2 q2) fun d s3 ⟨z, H3, I3, r3, k, e, q3⟩ => ?_)) hm
  subst e
  cases r3
  refine wpAny_truthy_bool ?_
  cases k with
  | false => exact ite_ff ⟨.bl false, H3, I3, rfl, q3⟩
  | true => exact ite_tt (chain_last (thn (hc pins s3 σ H3 _ I3 q3) fun w' s4 ⟨z', H4, I4, r4, q4⟩ => ho' pins s4 σ H4 y z' u w' Q I4 r2 r4 q4))
theorem vb {op op' : CmpOp} {r r' : R2} (ho : OpR X (compareOp op) r) (ho' : OpR X (compareOp op') r') (ha : PE X a ta) (hb : PE X b tb) (hc : PE X c tc)
    (hm : lastMarks [op, op'] [b, c] = false := by with_unfolding_all rfl) : PT X (.Compare a [op, op'] [b, c] pos) (Nb (Ki r r' ta tb tc)) := by
  intro pins s σ H Q I h
  refine isTrue_chain (thn (ha pins s σ H _ I h) fun v s1 ⟨x, H1, I1, r1, q1⟩ => test_link (thn (hb pins s1 σ H1 _ I1 q1) fun u s2 ⟨y, H2, I2, r2, q2⟩ =>
    thn (ho pins s2 σ H2 x y v u _ I2 r1 r2 q2) fun d s3 ⟨z, H3, I3, r3, k, e, q3⟩ => ?_)) hm
  subst e
  cases r3
  refine wpAny_truthy_bool ?_
  cases k with
  | false =>
    obtain ⟨k', e', q'⟩ := q3
    cases e'
    exact ite_ff ⟨H3, I3, q'⟩
  | true =>
    refine ite_tt (test_last (thn (hc pins s3 σ H3 _ I3 q3) fun w' s4 ⟨z', H4, I4, r4, q4⟩ => thn (ho' pins s4 σ H4 y z' u w' _ I4 r2 r4 q4) fun d' s5 ⟨z2, H5, I5, r5, k2, e2, q5⟩ => ?_))
    subst e2
    cases r5
    exact wpAny_truthy_bool ⟨H5, I5, q5⟩
def kj (K : PySem.W.Frag) (x : V) (H : Hp) (k : Bool) : Prop :=
 match x with
 | .non => k = false
 | .bl b => k = b
 | .int i => k = (i != 0)
 | .str y => y.length ≤ sizeLine ∧ k = ((y.length : Int) != 0)
 | .byt y => y.size ≤ sizeLine ∧ k = ((y.size : Int) != 0)
 | .ref p => (∃ xs, SqL K H p xs ∧ k = !xs.isEmpty) ∨ (∃ xs, SqT K H p xs ∧ k = !xs.isEmpty) ∨ ∃ kvs, H p = some (.dK kvs) ∧ k = !kvs.isEmpty
 | _ => False
theorem Vb {κ : Type} {kvs : List (κ × V)} {vs : List (κ × Value)} (r : KV kvs vs) : (!vs.isEmpty) = !kvs.isEmpty := by
 cases r <;> rfl
theorem nc {xs : List V} {its : List Value} (r : Vals xs its) : (!its.toArray.isEmpty) = !xs.isEmpty := by
 cases r <;> simp
theorem gr : (sizeLine : Nat) < 2 ^ 63 := by rw [sizeLine_eq]; decide
theorem vc : Ut X (fun x H Q => ∃ k, kj X.K x H k ∧ Q k H) := by
 intro pins s σ H x v Q I rx h
 obtain ⟨k, e, q⟩ := h
 have hl := gr
 have hs : sizeLine = 16777216 := sizeLine_eq
 cases x with
 | non =>
  cases rx
  have e' : k = false := e
  subst e'
  exact truthy_none ⟨H, I, q⟩
 | bl b =>
  cases rx
  have e' : k = b := e
  subst e'
  exact wpAny_truthy_bool ⟨H, I, q⟩
 | int i =>
  obtain ⟨t, rfl⟩ := rx
  have e' : k = (i != 0) := e
  subst e'
  exact PySem.P.truthy_int ⟨H, I, q⟩
 | str y =>
  obtain ⟨t, rfl⟩ := rx
  obtain ⟨hy, e'⟩ : y.length ≤ sizeLine ∧ k = ((y.length : Int) != 0) := e
  subst e'
  exact PySem.P.truthy_str (by omega) ⟨H, I.tok _, q⟩
 | byt y =>
  obtain ⟨t, rfl⟩ := rx
  obtain ⟨hy, e'⟩ : y.size ≤ sizeLine ∧ k = ((y.size : Int) != 0) := e
  subst e'
  exact PySem.W.truthy_bytes (by omega) ⟨H, I.tok _, q⟩
 | ref p =>
  cases rx
  have e' : (∃ xs, SqL X.K H p xs ∧ k = !xs.isEmpty) ∨ (∃ xs, SqT X.K H p xs ∧ k = !xs.isEmpty) ∨ ∃ kvs, H p = some (.dK kvs) ∧ k = !kvs.isEmpty := e
  rcases e' with ⟨xs, hx, e'⟩ | ⟨xs, hx, e'⟩ | ⟨kvs, hx, e'⟩
  · subst e'
    obtain ⟨its, r, pl, hz⟩ := I.list hx
    have hlen := r.length
    exact wpAny_truthy_list pl.isList (by simp only [List.size_toArray]; omega) ⟨H, I.tok _, by rw [nc r]; exact q⟩
  · subst e'
    obtain ⟨its, r, pl, hz⟩ := I.tuple hx
    have hlen := r.length
    exact truthy_tuple pl (by simp only [List.size_toArray]; omega) ⟨H, I.tok _, by rw [nc r]; exact q⟩
  · subst e'
    obtain ⟨hz, hS, vs, r, m⟩ : kvs.length ≤ sizeLine ∧ (p == sysModules) = false ∧ ∃ vs, KV kvs vs ∧ s.heap.DictOf (Ca X.prog X.w) p vs := I.hok p _ hx
    have hlen : kvs.length = vs.length := Paired.length r
    exact wpAny_truthy_dict hS m (by omega) ⟨H, I.tok _, by rw [Vb r]; exact q⟩
 | _ => exact (show False from e).elim
theorem Vc (ha : PE X a ta) (he : ∀ whole, isTrue a X.env whole = (do let v ← whole; standAt a.pos; holding [v] (truthy v))) :
    PT X a (fun σ H Q => ta σ H fun x H' => ∃ k, kj X.K x H' k ∧ Q k H') := by
  intro pins s σ H Q I h
  exact isTrue_plain (thn (ha pins s σ H _ I h) fun v s1 ⟨x, H1, I1, r1, q1⟩ => vc pins s1 σ H1 x v Q I1 r1 q1) (he _)
theorem vd : OpR X (binaryOp .Add) (fun x y H Q => ∃ i j, x = .str i ∧ y = .str j ∧ i.length + j.length ≤ sizeLine ∧ Q (.str (i ++ j)) H) := by
 intro pins s σ H x y v u Q I rx ry h
 obtain ⟨i, j, rfl, rfl, hz, q⟩ := h
 obtain ⟨t, rfl⟩ := rx
 obtain ⟨t', rfl⟩ := ry
 exact add_str (fun t' tk => ⟨.str (i ++ j), H, I.tok _, ⟨_, rfl⟩, q⟩) hz
theorem vals1 {x : V} {us : List Value} (r : Vals [x] us) : ∃ u, us = [u] ∧ RelV x u := by
 cases r with
 | cons r1 r2 => cases r2; exact ⟨_, rfl, r1⟩
theorem vals2 {x y : V} {us : List Value} (r : Vals [x, y] us) : ∃ u w', us = [u, w'] ∧ RelV x u ∧ RelV y w' := by
 cases r with
 | cons r1 r2 =>
  cases r2 with
  | cons r3 r4 => cases r4; exact ⟨_, _, rfl, r1, r3⟩
theorem Vd : cu X (.builtin "abs") (fun xs H Q => ∃ i, xs = [.int i] ∧ Q (.int (if i < 0 then -i else i)) H) := by
 intro pins s σ H xs us Q I r h
 obtain ⟨i, rfl, q⟩ := h
 obtain ⟨u, rfl, t, rfl⟩ := vals1 r
 exact call_abs_int fun u tk => ⟨.int (if i < 0 then -i else i), H, I.tok _, ⟨_, rfl⟩, q⟩
end
end L2
namespace L2
open PySem PySem.Spec PyProof.Rows
structure ObjM (h : Heap) (x dx C : Addr) (mA : Str → Option Value) : Prop where
 obj : h.get? x = some (PySem.W.instObj C dx)
 ns : h.Ns1 dx mA
 ne : dx ≠ x
theorem ve {h : Heap} {dx : Addr} {mA : Str → Option Value} (n : h.Ns1 dx mA) : ∃ od, h.get? dx = some od ∧ ∀ name, PySem.W.lookIn name od = some (mA name) := by
 obtain ⟨o, es, ep, ho, hd, hk, _, hm⟩ := n
 refine ⟨o, ho, fun name => ?_⟩
 have e := hm name
 unfold nsFind findBy at e
 rw [← Array.find?_toList] at e
 unfold PySem.W.lookIn
 rw [hd]
 dsimp only
 split
 · rename_i y q
   rw [q] at e
   exact congrArg some e
 · rename_i q
   rw [q] at e
   have a : es.toList.any (·.refKey) = false := by
    rw [List.any_eq_false]
    intro y hy
    obtain ⟨z, t, hkey⟩ := hk y (Array.mem_toList_iff.mp hy)
    simp [DictEntry.refKey, hkey]
   have a' : ¬ es.toList.any (·.refKey) = true := by rw [a]; exact Bool.false_ne_true
   rw [if_neg a']
   exact congrArg some e
theorem ObjM.look {h : Heap} {x dx C : Addr} {mA : Str → Option Value} (I : ObjM h x dx C mA) : ∃ od, PySem.W.InstAt h x (PySem.W.instObj C dx) C (some od) ∧ ∀ name, PySem.W.lookIn name od = some (mA name) :=
 let ⟨od, ho, hl⟩ := ve I.ns
 ⟨od, ⟨I.obj, rfl, rfl, ho⟩, hl⟩
section
variable {prog : Program} {w : World} {A : Around} {E : Value → Shared → Prop} {s : Shared} {K : PySem.W.Frag} {x dx C f : Addr} {mA : Str → Option Value} {name : Str} {v : Value}
theorem get_map {expr : Bool} {Q : Value → Shared → Prop} (X : K.In s.heap) (I : ObjM s.heap x dx C mA) (hg : PySem.W.plainGet K C name = true) (hh : PySem.W.hasDictIn K C = true)
    (ha : PySem.W.findIn K (.ref C) name = some none) (hv : mA name = some v) (hv' : PySem.W.handedIn v = true) (h : Q v { s with toks := s.toks + 1 }) :
    wpAny (model prog w) A (getAttr (.ref x) name expr) Q E s := by
  obtain ⟨od, J, hl⟩ := I.look
  exact PySem.W.get_value X J (PySem.W.plainGet_of hg).1 (PySem.W.findObj_own hh ha rfl (by rw [hl, hv])) hv' h
theorem Ve {pl : Sem Bool} {Q : Value × List Value → Shared → Prop} (X : K.In s.heap) (I : ObjM s.heap x dx C mA) (hg : PySem.W.plainGet K C name = true)
    (hf : PySem.W.findIn K (.ref C) name = some (some (.ref f))) (ht : PySem.W.isFn K (.ref f) = true) (hv : mA name = none) (h : Q (.ref f, [.ref x]) s) :
    wpAny (model prog w) A (getMethod (.ref x) name pl) Q E s := by
  obtain ⟨od, J, hl⟩ := I.look
  exact PySem.W.method_fn X J (PySem.W.plainGet_of hg).1 (PySem.W.plainGet_of hg).2 hf (beq_iff_eq.mp ht) (by show (PySem.W.lookIn name od).map (·.isSome) = some false; rw [hl, hv]; rfl) h
theorem vf {ns : List Str} {Q : Unit → Shared → Prop} (X : K.In s.heap) (I : ObjM s.heap x dx C mA)
    (hs : PySem.W.findIn K (.ref C) "__setattr__" = some (some (.builtin "object.__setattr__"))) (hp : PySem.W.plainOver K C = true) (ht : PySem.W.takerIn K C name = some none) (hh : PySem.W.hasDictIn K C = true)
    (hw : PySem.Within mA ns) (hsz : ns.length ≤ sizeLine)
    (h : ∀ h', ObjM h' x dx C (fun y => if y = name then some v else mA y) → Heap.SameBut dx s.heap h' → Q () { s with heap := h', toks := s.toks + 2 }) :
    wpAny (model prog w) A (setAttr (.ref x) name v) Q E s := by
  obtain ⟨od, J, hl⟩ := I.look
  refine PySem.W.set_plain X J hs (PySem.W.osa_open (s := { s with toks := s.toks + 1 }) (r := none) X J hp ht fun b => ?_)
  obtain ⟨cd, hc, hd'⟩ := PySem.W.any_some hh
  have hx : s.heap.get? x = some ⟨.ref C, some dx, .plain, #[]⟩ := I.obj
  refine wpAny_bind (wpAny_pure (wpAny_bind (wpAny_bind (wpAny_loadPart hx (wpAny_bind (PySem.W.Looks.here (s := { s with toks := s.toks + 1 }) (PySem.W.looks_clsIn X hc) ?_))))))
  rw [hd']
  refine wpAny_pure (a := some dx) (wpAny_bind (wpAny_pure (wpAny_bind ?_)))
  refine wpAny_nsSet1 (s := { s with toks := s.toks + 1 }) I.ns fun h' hn2 hs2 => ?_
  obtain ⟨oD, esD, epD, hoD, hdD, hcD⟩ := hn2.count (PySem.Within.cons name v hw)
  refine wpAny_bind (wpAny_lookBehind hoD (by rw [hdD]; exact pastItsLine_dict (Nat.le_trans hcD (by rw [List.length_cons]; omega))) ?_)
  exact wpAny_pure (h _ ⟨(hs2.2 _ (Ne.symm I.ne)).trans I.obj, hn2, I.ne⟩ hs2)
theorem Vf {R : Result → Shared → Prop} {vs : List Value} {kw : List (Str × Value)} (X : K.In s.heap) (hm : PySem.W.makesIn K C = true)
    (hi : PySem.W.findIn K (.ref C) "__init__" = some (some (.ref f))) (hf : PySem.W.typeIn K (.ref f) = some (.type "function"))
    (h : codeAny (model prog w) (A.under (.builtin "type.__call__" ⟨.ref C :: vs, kw⟩)) (.call (.ref f) ⟨.ref (s.heap.objs.size + 1) :: vs, kw⟩) (PySem.W.InitBack (s.heap.objs.size + 1) R)
      { s with heap := (s.heap.push PySem.W.emptyDict).push (PySem.W.instObj C s.heap.objs.size) }) :
    codeAny (model prog w) A (.call (.ref C) ⟨vs, kw⟩) R s := by
  obtain ⟨hh, g, d, t, os⟩ := s
  exact PySem.W.make_core (PySem.W.makes_of X hm) (PySem.W.looks_findIn X hi) (fun self => PySem.W.bind_fn X self hf) (.inl rfl) h
end
def bq (f : Str) (v : V) : List (Str × V) → List (Str × V)
 | [] => [(f, v)]
 | (g, x) :: r => if g = f then (g, v) :: r else (g, x) :: bq f v r
theorem Kj (f g : Str) (v : V) : ∀ fs : List (Str × V), (bq f v fs).lookup g = if g = f then some v else fs.lookup g
 | [] => by
  show List.lookup g [(f, v)] = _
  by_cases h : g = f
  · have hb : (g == f) = true := beq_iff_eq.mpr h
    simp only [List.lookup, hb, if_pos h]
  · have hb : (g == f) = false := beq_eq_false_iff_ne.mpr h
    simp only [List.lookup, hb, if_neg h]
 | (k, x) :: r => by
  have ih := Kj f g v r
  rw [show bq f v ((k, x) :: r) = (if k = f then (k, v) :: r else (k, x) :: bq f v r) from rfl]
  by_cases hk : k = f
  · rw [if_pos hk]
    by_cases h : g = k
    · have hb : (g == k) = true := beq_iff_eq.mpr h
      simp only [List.lookup, hb, if_pos (h.trans hk)]
    · have hb : (g == k) = false := beq_eq_false_iff_ne.mpr h
      simp only [List.lookup, hb, if_neg (fun e : g = f => h (e.trans hk.symm))]
  · rw [if_neg hk]
    by_cases h : g = k
    · have hb : (g == k) = true := beq_iff_eq.mpr h
      simp only [List.lookup, hb, if_neg (fun e : g = f => hk (h.symm.trans e))]
    · have hb : (g == k) = false := beq_eq_false_iff_ne.mpr h
      simp only [List.lookup, hb]
      exact ih
theorem Kk (f : Str) (v : V) : ∀ fs : List (Str × V), f ∈ (bq f v fs).map (·.1) ∧ ∀ g, g ∈ fs.map (·.1) → g ∈ (bq f v fs).map (·.1)
 | [] => ⟨by simp [bq], fun g h => by simp at h⟩
 | (k, x) :: r => by
  obtain ⟨i1, i2⟩ := Kk f v r
  rw [show bq f v ((k, x) :: r) = (if k = f then (k, v) :: r else (k, x) :: bq f v r) from rfl]
  by_cases hk : k = f
  · rw [if_pos hk]
    subst hk
    exact ⟨by simp, fun g h => by simpa using h⟩
  · rw [if_neg hk]
    refine ⟨?_, fun g h => ?_⟩
    · rw [List.map_cons]
      exact List.mem_cons_of_mem _ i1
    · rw [List.map_cons] at h ⊢
      rcases List.mem_cons.mp h with e | e
      · exact List.mem_cons.mpr (.inl e)
      · exact List.mem_cons_of_mem _ (i2 g e)
theorem Nc (f : Str) (v : V) : ∀ fs : List (Str × V), (bq f v fs).length ≤ fs.length + 1
 | [] => by simp [bq]
 | (k, x) :: r => by
  have ih := Nc f v r
  rw [show bq f v ((k, x) :: r) = (if k = f then (k, v) :: r else (k, x) :: bq f v r) from rfl]
  by_cases hk : k = f
  · rw [if_pos hk, List.length_cons, List.length_cons]; omega
  · rw [if_neg hk, List.length_cons, List.length_cons]; omega
theorem Bv.some_of {v : V} {o : Option Value} (r : Bv (some v) o) : ∃ u, o = some u ∧ RelV v u := by
 cases o with
 | none => exact (show False from r).elim
 | some u => exact ⟨u, rfl, r⟩
theorem Bv.none_of {o : Option Value} (r : Bv none o) : o = none := by
 cases o with
 | none => rfl
 | some u => exact (show False from r).elim
theorem vg {v : V} {u : Value} (r : RelV v u) : PySem.W.handedIn u = true := by
 cases v with
 | non => cases (show u = Value.none from r); rfl
 | bl b => cases (show u = Value.bool b from r); rfl
 | int i => obtain ⟨t, e⟩ := (show ∃ t, u = Value.int i t from r); cases e; rfl
 | str x => obtain ⟨t, e⟩ := (show ∃ t, u = Value.str x t from r); cases e; rfl
 | byt b => obtain ⟨t, e⟩ := (show ∃ t, u = Value.bytes b t from r); cases e; rfl
 | flt b => obtain ⟨t, e⟩ := (show ∃ t, u = Value.float b t from r); cases e; rfl
 | ref a => cases (show u = Value.ref a from r); rfl
 | ty n => cases (show u = Value.type n from r); rfl
section
variable {P : Program} {w : World} {H H' : Hp} {h h' : Heap} {a C dx : Addr} {fs fs' : List (Str × V)}
theorem kl (hok : HOk P w H h) (e : H a = some (.ins C dx fs)) : ∃ mA, ObjM h a dx C mA ∧ (∀ f, Bv (fs.lookup f) (mA f)) ∧ PySem.Within mA (fs.map (·.1)) ∧ fs.length ≤ 1000 ∧ H dx = some (.own a) := by
 obtain ⟨d, z, ne, ob, mA, n, r, q⟩ := (show bg P w H h a (.ins C dx fs) from hok a _ e)
 exact ⟨mA, ⟨ob, n, ne⟩, r, q, z, d⟩
end
structure Cls (K : PySem.W.Frag) (C : Addr) : Prop where
 pg : PySem.W.plainGet K C Str.empty = true
 hd : PySem.W.hasDictIn K C = true
 po : PySem.W.plainOver K C = true
 sa : PySem.W.findIn K (.ref C) "__setattr__" = some (some (.builtin "object.__setattr__"))
theorem Cls.get {K : PySem.W.Frag} {C : Addr} (c : Cls K C) (f : Str) : PySem.W.plainGet K C f = true := c.pg
def Cc (K : PySem.W.Frag) (C : Addr) (f : Str) : Prop := PySem.W.findIn K (.ref C) f = some none
theorem Cc.taker {K : PySem.W.Frag} {C : Addr} {f : Str} (n : Cc K C f) : PySem.W.takerIn K C f = some none := by
 unfold PySem.W.takerIn
 rw [show PySem.W.findIn K (.ref C) f = some none from n]
 rfl
structure Meth (K : PySem.W.Frag) (C : Addr) (m : Str) (f : Addr) : Prop where
 at_ : PySem.W.findIn K (.ref C) m = some (some (.ref f))
 fn : PySem.W.isFn K (.ref f) = true
 kp : PySem.W.keepIn K (.ref f) = true
section
variable {X : Cx} {pins : List (Addr × Obj)} {σ : St} {H : Hp} {s : Shared} {a C dx : Addr} {fs : List (Str × V)} {f : Str} {v : V} {A : Around} {E : Value → Shared → Prop}
theorem Vg {b : Bool} {Q : Value → Shared → Prop} (I : Inv X pins σ H s) (e : H a = some (.ins C dx fs)) (c : Cls X.K C) (n : Cc X.K C f) (l : fs.lookup f = some v)
    (h : ∀ u s', Inv X pins σ H s' → RelV v u → Q u s') : wpAny (model X.prog X.w) A (getAttr (.ref a) f b) Q E s := by
  obtain ⟨mA, O, r, _, _, _⟩ := kl I.hok e
  obtain ⟨u, hu, ru⟩ := Bv.some_of (v := v) (o := mA f) (by rw [← l]; exact r f)
  exact get_map I.kIn O (c.get f) c.hd n hu (vg ru) (h u _ (I.tok _) ru)
theorem vh {m : Str} {g : Addr} {pl : Sem Bool} {Q : Value × List Value → Shared → Prop} (I : Inv X pins σ H s) (e : H a = some (.ins C dx fs)) (c : Cls X.K C) (k : Meth X.K C m g) (l : fs.lookup m = none)
    (h : Q (.ref g, [.ref a]) s) : wpAny (model X.prog X.w) A (getMethod (.ref a) m pl) Q E s := by
  obtain ⟨mA, O, r, _, _, _⟩ := kl I.hok e
  have hn : mA m = none := Bv.none_of (by rw [← l]; exact r m)
  exact Ve I.kIn O (c.get m) k.at_ k.fn hn h
theorem Vh {y : V} {u : Value} {Q : Unit → Shared → Prop} (I : Inv X pins σ H s) (e : H a = some (.ins C dx fs)) (c : Cls X.K C) (n : Cc X.K C f) (hl : fs.length < 1000) (ry : RelV y u)
    (h : ∀ s', Inv X pins σ (upd H a (.ins C dx (bq f y fs))) s' → Q () s') : wpAny (model X.prog X.w) A (setAttr (.ref a) f u) Q E s := by
  obtain ⟨mA, O, r, wi, _, ho⟩ := kl I.hok e
  have hz : (fs.map (·.1)).length ≤ sizeLine := by rw [List.length_map, sizeLine_eq]; omega
  refine vf I.kIn O c.sa c.po n.taker c.hd wi hz fun h' O' sb => h _ ?_
  have hd : ∃ o, h'.get? dx = some o := let ⟨o, _, _, e', _⟩ := O'.ns; ⟨o, e'⟩
  refine I.write (x := a) (e := dx) (by rw [e]; exact True.intro) (.inr ho) (fun b q hb z => (sb.2 b hb).trans z) hd ?_
  refine ⟨by rw [bj O.ne]; exact ho, ?_, O.ne, O'.obj, _, O'.ns, fun g => ?_, fun g hg => ?_⟩
  · have := Nc f y fs; omega
  · show Bv ((bq f y fs).lookup g) (if g = f then some u else mA g)
    rw [Kj]
    by_cases q : g = f
    · rw [if_pos q, if_pos q]; exact ry
    · rw [if_neg q, if_neg q]; exact r g
  · by_cases q : g = f
    · rw [q]; exact (Kk f y fs).1
    · refine (Kk f y fs).2 g (wi g fun z => hg ?_)
      show (if g = f then some u else mA g) = none
      rw [if_neg q]; exact z
theorem Inv.made (I : Inv X pins σ H s) : Inv X pins σ (upd (upd H s.heap.objs.size (.own (s.heap.objs.size + 1))) (s.heap.objs.size + 1) (.ins C s.heap.objs.size []))
    { s with heap := (s.heap.push PySem.W.emptyDict).push (PySem.W.instObj C s.heap.objs.size) } := by
  have e1 : (s.heap.push PySem.W.emptyDict).get? s.heap.objs.size = some PySem.W.emptyDict := Heap.get?_push_size s.heap rfl
  have e2 : ((s.heap.push PySem.W.emptyDict).push (PySem.W.instObj C s.heap.objs.size)).get? (s.heap.objs.size + 1) = some (PySem.W.instObj C s.heap.objs.size) := by
    have := Heap.get?_push_size (s.heap.push PySem.W.emptyDict) (o := PySem.W.instObj C s.heap.objs.size) rfl
    rwa [Heap.size_push] at this
  have e3 : (s.heap.push PySem.W.emptyDict).Ns s.heap.objs.size (fun _ => none) := ⟨PySem.W.emptyDict, #[], _, e1, rfl, (fun e he => absurd he (by simp)), fun _ => rfl⟩
  have I1 := I.laid (a := s.heap.objs.size) (o := .own (s.heap.objs.size + 1)) (h' := s.heap.push PySem.W.emptyDict) (t' := s.toks) (fun b u q => Heap.get?_push_of_some _ q) (Nat.le_refl _) ⟨_, e1⟩
  refine I1.laid (a := s.heap.objs.size + 1) (o := .ins C s.heap.objs.size []) (t' := s.toks) (fun b u q => Heap.get?_push_of_some _ q) (Nat.le_of_eq (Heap.size_push _ _)) ?_
  have ne : s.heap.objs.size ≠ s.heap.objs.size + 1 := Nat.ne_of_lt (Nat.lt_succ_self _)
  refine ⟨by rw [bj ne, cj], Nat.zero_le _, ne, e2, fun _ => none, (Heap.Ns1.of_empty e3).at fun o q => Heap.get?_push_of_some _ q, fun _ => True.intro, fun y hy => absurd rfl hy⟩
theorem vi {prog : Program} {w : World} {env : Env} {e : Expr} {f : Str} {pos : Pos} {s : Shared} {Q : Value → Shared → Prop} (hb : attributeBase e f env (eval e env) = eval e env)
    (h : wpAny (model prog w) A (eval e env) (fun o s₁ => wpAny (model prog w) A (getAttr o f true) Q E s₁) E s) : wpAny (model prog w) A (eval (.Attribute e f pos) env) Q E s :=
  Attribute_any_ h (by rw [arm_eval_Attribute, hb])
end
def Vi (K : PySem.W.Frag) (ta : TE) (f : Str) : TE := fun σ H Q => ta σ H fun x H1 => ∃ a C dx fs v, x = .ref a ∧ H1 a = some (.ins C dx fs) ∧ Cls K C ∧ Cc K C f ∧ fs.lookup f = some v ∧ Q v H1
def vj (K : PySem.W.Frag) (ta tv : TE) (f : Str) : TS := fun D σ H => tv σ H fun y H1 => ta σ H1 fun x H2 => ∃ a C dx fs, x = .ref a ∧ H2 a = some (.ins C dx fs) ∧ Cls K C ∧ Cc K C f ∧ fs.length < 1000 ∧
 D.nx σ (upd H2 a (.ins C dx (bq f y fs)))
section
variable {X : Cx} {o e value : Expr} {f : Str} {pos pos' tpos : Pos} {ta tv : TE}
theorem Vj (he : PE X e ta) (hb : attributeBase e f X.env (eval e X.env) = eval e X.env) : PE X (.Attribute e f pos) (Vi X.K ta f) := by
 intro pins s σ H Q I h
 refine vi hb (thn (he pins s σ H _ I h) fun u s1 ⟨x, H1, I1, rx, a, C, dx, fs, v, ex, ea, c, n, l, q⟩ => ?_)
 subst ex
 obtain rfl : u = Value.ref a := rx
 exact Vg I1 ea c n l fun u' s2 I2 ru => ⟨v, H1, I2, ru, q⟩
theorem vk (ha : PE X o ta) (hv : PE X value tv) (hs : swapsWith value (some (.Attribute o f pos')) pos.line X.env = pure false) : PS X (.Assign [.Attribute o f pos'] value pos) (vj X.K ta tv f) := by
 intro pins s σ H D I h
 refine plainObj_wpAny_Assign_Attribute (thn (hv pins s σ H _ I h) fun u s1 ⟨y, H1, I1, ry, q⟩ => thn (ha pins s1 σ H1 _ I1 q) fun ov s2 ⟨x, H2, I2, rx, a, C, dx, fs, ex, ea, c, n, l, q2⟩ => ?_) hs
 subst ex
 obtain rfl : ov = Value.ref a := rx
 exact Vh I2 ea c n l ry fun s3 I3 => ⟨σ, _, I3, q2⟩
end
section
variable {X : Cx} {pins : List (Addr × Obj)} {σ : St} {H : Hp} {s : Shared} {A : Around} {E : Value → Shared → Prop} {Q : Value → Shared → Prop} {c : Value} {b : Bool}
end
end L2
namespace L2
open PySem PySem.Spec PyProof.Rows
structure Room (k : Nat) (A : Around) : Prop where
 hd : A.handled = none
 dp : A.depth + 3 * k + 5 < recursionLimit
 un : A.units + 16 * k + 200 < cLine
theorem Room.mono {j k : Nat} {A : Around} (r : Room k A) (h : j ≤ k) : Room j A := ⟨r.hd, by have := r.dp; omega, by have := r.un; omega⟩
theorem Room.deeper {k : Nat} {A : Around} (r : Room (k + 1) A) (env : Env) : Room k (A.deeper env) :=
 ⟨r.hd, by have := r.dp; show A.depth + 1 + 3 * k + 5 < _; omega, by have := r.un; show A.units + 3 + 16 * k + 200 < _; omega⟩
theorem Vk {A : Around} {C : Addr} {us : List Value} {kw : List (Str × Value)} : (A.under (.builtin "type.__call__" ⟨.ref C :: us, kw⟩)).depth = A.depth + 1 := by
 first | rfl | simp [Around.under, Code.weight, Code.isCreation, Code.isGuard, Code.isCaller, Code.frames, Code.isFrame, guardIds]
theorem Vl {A : Around} {C : Addr} {us : List Value} {kw : List (Str × Value)} : (A.under (.builtin "type.__call__" ⟨.ref C :: us, kw⟩)).units = A.units + 1 := by
 first | rfl | simp [Around.under, Code.cUnits, Code.frames, Code.isFrame]
theorem Room.make {k : Nat} {A : Around} (r : Room (k + 1) A) (C : Addr) (us : List Value) (kw : List (Str × Value)) : Room k (A.under (.builtin "type.__call__" ⟨.ref C :: us, kw⟩)) :=
 ⟨r.hd, by have := r.dp; rw [Vk]; omega, by have := r.un; rw [Vl]; omega⟩
theorem Room.depth {k : Nat} {A : Around} (r : Room k A) : A.depth < recursionLimit := by have := r.dp; omega
theorem Room.units {k : Nat} {A : Around} (r : Room k A) : A.units + 64 < cLine := by have := r.un; omega
def Nd : TA := fun _ H Q => Q [] H
def Kl (ta : TE) (tr : TA) : TA := fun σ H Q => ta σ H fun x H1 => tr σ H1 fun xs H2 => Q (x :: xs) H2
section
variable {X : Cx} {e : Expr} {es : List Expr} {te : TE} {t : TA} {pos : Pos}
theorem km : PA X [] Nd := fun _ _ _ _ H Q I h => Calls.spliced_nil ⟨[], H, I, .nil, h⟩
theorem Hm (ha : PE X e te) (hr : PA X es t) (hs : starEach (e :: es) X.env = (false, eval e X.env) :: starEach es X.env := by rfl) : PA X (e :: es) (Kl te t) := by
 intro pos pins s σ H Q I h
 rw [hs]
 show wpAny _ _ (spliced ((false, eval e X.env) :: backTo pos (starEach es X.env))) _ _ s
 refine Calls.spliced_cons (thn (ha pins s σ H _ I h) fun u s1 ⟨x, H1, I1, r1, q1⟩ => ?_)
 exact thn (hr pos pins s1 σ H1 _ I1 q1) fun us s2 ⟨xs, H2, I2, r2, q2⟩ => ⟨x :: xs, H2, I2, .cons r1 r2, q2⟩
def vm (t : TA) : TE := fun σ H Q => t σ H fun xs H1 => xs.length ≤ sizeLine ∧ ∀ p, H1 p = none → Q (.ref p) (upd H1 p (.tup xs))
def Vm (t : TA) : TE := fun σ H Q => t σ H fun xs H1 => xs.length ≤ sizeLine ∧ ∀ p, H1 p = none → Q (.ref p) (upd H1 p (.lst xs))
theorem vn {x1} (h : PA X es t) : PE X (.Tuple es x1 pos) (vm t) := by
 intro pins s σ H Q I hq
 refine wpAny_Tuple_spliced (thn (h pos pins s σ H _ I hq) fun us s1 ⟨xs, H1, I1, r, z, q⟩ => ⟨by rw [← r.length]; exact z, ?_⟩)
 have hf : H1 s1.heap.objs.size = none := I1.hok.fresh (Nat.le_refl _)
 refine ⟨.ref s1.heap.objs.size, upd H1 s1.heap.objs.size (.tup xs), I1.laid (t' := s1.toks) (fun b u e => Heap.get?_push_of_some _ e) (Nat.le_refl _) ?_, rfl, q _ hf⟩
 exact ⟨z, us, r, ⟨_, Heap.get?_push_size _ rfl, rfl, _, rfl⟩⟩
theorem Vn (h : PA X es t) : PE X (.List es pos) (Vm t) := by
 intro pins s σ H Q I hq
 refine wpAny_List_spliced (thn (h pos pins s σ H _ I hq) fun us s1 ⟨xs, H1, I1, r, z, q⟩ => ⟨by rw [← r.length]; exact z, ?_⟩)
 have hf : H1 s1.heap.objs.size = none := I1.hok.fresh (Nat.le_refl _)
 refine ⟨.ref s1.heap.objs.size, upd H1 s1.heap.objs.size (.lst xs), I1.laid (t' := s1.toks) (fun b u e => Heap.get?_push_of_some _ e) (Nat.le_refl _) ?_, rfl, q _ hf⟩
 exact ⟨z, us, 0, r, Heap.get?_push_size _ rfl⟩
end
abbrev Sp := List V → Hp → VK → XK → Prop
abbrev CXT := List Env → Hp → Shared → XK → Value → Shared → Prop
structure Env0 (P : Program) (w : World) (K : PySem.W.Frag) (mg : Str → Option Value) (base : Heap) (A : Around) (outer : List Env) (s : Shared) (H : Hp) : Prop where
 frames : A.frames = some outer
 mod : Mod K mg base
 bs : ∀ b o, base.get? b = some o → s.heap.get? b = some o ∧ H b = none
 bsz : base.objs.size ≤ s.heap.objs.size
 funs : s.heap.FunFrames base outer
 frf : ∀ b ∈ frs outer, H b = none
 hok : HOk P w H s.heap
 bare : AllBare s.gens
def CE (outer : List Env) (P : Program) (w : World) (H : Hp) (s : Shared) (Q : VK) (u : Value) (s' : Shared) : Prop :=
 ∃ v H', s'.os = s.os ∧ AllBare s'.gens ∧ Un (frs outer) [] H H' s.heap s'.heap ∧ HOk P w H' s'.heap ∧ RelV v u ∧ Q v H'
def CR (CX : CXT) (outer : List Env) (P : Program) (w : World) (H : Hp) (s : Shared) (Q : VK) (E : XK) (r : Result) (s' : Shared) : Prop :=
 match r with
 | .ok (.ret u) => CE outer P w H s Q u s'
 | .ok _ => False
 | .error e => CX outer H s E e s'
structure FnOk (P : Program) (w : World) (K : PySem.W.Frag) (mg : Str → Option Value) (base : Heap) (CX : CXT) (k : Nat) (f : Addr) (fd : FuncData) (ps : List Str) (sp : Sp) : Prop where
 len : ∀ vs H Q E, sp vs H Q E → vs.length = ps.length
 run : ∀ (A : Around) (outer : List Env) (s : Shared) (H : Hp) (args : Args) (us : List Value) (vs : List V) (Q : VK) (E : XK), Room k A → Env0 P w K mg base A outer s H → BindsTo s fd args (ps.zip us) → Vals vs us → sp vs H Q E →
  codeAny (model P w) A (.call (.ref f) args) (CR CX outer P w H s Q E) s
theorem FnOk.imp {P : Program} {w : World} {K : PySem.W.Frag} {mg : Str → Option Value} {base : Heap} {CX : CXT} {k : Nat} {f : Addr} {fd : FuncData} {ps : List Str} {sp sp' : Sp} (F : FnOk P w K mg base CX k f fd ps sp)
    (h : ∀ vs H Q E, sp' vs H Q E → sp vs H Q E) : FnOk P w K mg base CX k f fd ps sp' :=
  ⟨fun vs H Q E q => F.len vs H Q E (h _ _ _ _ q), fun A outer s H args us vs Q E hr he hb hv hs => F.run A outer s H args us vs Q E hr he hb hv (h _ _ _ _ hs)⟩
theorem Env0.make {P : Program} {w : World} {K : PySem.W.Frag} {mg : Str → Option Value} {base : Heap} {A : Around} {outer : List Env} {s : Shared} {H : Hp} (e : Env0 P w K mg base A outer s H) (C : Addr) (us : List Value) (kw : List (Str × Value)) :
    Env0 P w K mg base (A.under (.builtin "type.__call__" ⟨.ref C :: us, kw⟩)) outer s H := ⟨by first | exact e.frames | (simpa [Around.under, Code.envs, Code.isFrame, pushEnvs] using e.frames), e.mod, e.bs, e.bsz, e.funs, e.frf, e.hok, e.bare⟩
section
variable {X : Cx} {pins : List (Addr × Obj)} {σ : St} {H : Hp} {s s' : Shared}
theorem Inv.env0 (I : Inv X pins σ H s) : Env0 X.prog X.w X.K X.mg X.base X.A X.stack s H :=
 ⟨I.ok.frames, I.ok.mod, I.bs, Nat.le_trans I.ok.bsz I.sz, I.stack, I.stkFree, I.hok, I.bare⟩
theorem Inv.after {Q : VK} {u : Value} (I : Inv X pins σ H s) (h : CE X.stack X.prog X.w H s Q u s') : EP X pins σ Q u s' := by
 obtain ⟨v, H', os, bare, un, hok, r, q⟩ := h
 obtain ⟨hh, g, d, t, os'⟩ := s'
 obtain rfl : os' = s.os := os
 exact ⟨v, H', I.call (h' := hh) (g' := g) (d' := d) (t' := t) (ch := []) un hok bare (fun b z => absurd z (by simp)), r, q⟩
end
def vo (sp : Sp) (dvs : List V) (E : XK) (t : TA) : TE := fun σ H Q => t σ H fun vs H1 => sp (vs ++ dvs) H1 Q E
def Vo (C : Addr) (m : Str) (sp : Sp) (dvs : List V) (E : XK) (ta : TE) (t : TA) : TE := fun σ H Q => ta σ H fun x H1 => ∃ a dx fs, x = .ref a ∧ H1 a = some (.ins C dx fs) ∧ fs.lookup m = none ∧
 t σ H1 fun vs H2 => sp (x :: (vs ++ dvs)) H2 Q E
def vp (C : Addr) (sp : Sp) (dvs : List V) (E : XK) (t : TA) : TE := fun σ H Q => t σ H fun vs H1 => ∀ x dx, H1 x = none → H1 dx = none → dx ≠ x →
 sp (.ref x :: (vs ++ dvs)) (upd (upd H1 dx (.own x)) x (.ins C dx [])) (fun v H2 => v = .non ∧ Q (.ref x) H2) E
def Binds (K : PySem.W.Frag) (fd : FuncData) (ps : List Str) (ds : List Value) : Prop :=
 ∀ (s : Shared) (us : List Value), K.In s.heap → (us ++ ds).length = ps.length → BindsTo s fd ⟨us, []⟩ (ps.zip (us ++ ds))
theorem Binds.all {K : PySem.W.Frag} {fd : FuncData} {ps : List Str} (h : ∀ us : List Value, us.length = ps.length → bindArgs fd ⟨us, []⟩ = pure (ps.zip us)) : Binds K fd ps [] := fun s us _ hl => by
 rw [List.append_nil] at hl ⊢
 exact .of_eq (h us hl)
def Passes (CX : CXT) (X : Cx) (E : XK) : Prop := ∀ (pins : List (Addr × Obj)) (σ : St) (H : Hp) (s : Shared) (e : Value) (s' : Shared), Inv X pins σ H s → CX X.stack H s E e s' → X.xe e s'
section
variable {X : Cx} {CX : CXT} {k : Nat} {f C : Addr} {fd : FuncData} {ps : List Str} {sp : Sp} {dvs : List V} {ds : List Value} {E : XK} {x m : Str} {p pos apos : Pos} {e o : Expr} {es : List Expr} {ta : TE} {t : TA}
theorem Km {pins : List (Addr × Obj)} {σ : St} {H : Hp} {s : Shared} {Q : VK} {us : List Value} {vs : List V} (F : FnOk X.prog X.w X.K X.mg X.base CX k f fd ps sp) (hr : Room k X.A) (hb : Binds X.K fd ps ds) (hd : Vals dvs ds) (hx : Passes CX X E)
    (I : Inv X pins σ H s) (r : Vals vs us) (h : sp (vs ++ dvs) H Q E) : wpAny (model X.prog X.w) X.A (call (.ref f) us) (EP X pins σ Q) X.xe s := by
  have r2 : Vals (vs ++ dvs) (us ++ ds) := r.append hd
  have hl : (us ++ ds).length = ps.length := by rw [← r2.length]; exact F.len _ _ _ _ h
  refine wpAny_call (codeAny_mono (F.run X.A X.stack s H ⟨us, []⟩ (us ++ ds) (vs ++ dvs) Q E hr I.env0 (hb s us I.kIn hl) r2 h) fun r s' hq => ?_)
  cases r with
  | error e => exact hx pins σ H s e s' I hq
  | ok fl =>
    cases fl with
    | ret u => exact I.after hq
    | next => exact False.elim hq
    | brk => exact False.elim hq
    | cont => exact False.elim hq
theorem Vp (F : FnOk X.prog X.w X.K X.mg X.base CX k f fd ps sp) (hr : Room k X.A) (hg : Gl X x) (hm : X.mg x = some (.ref f)) (hk : PySem.W.keepIn X.K (.ref f) = true) (hb : Binds X.K fd ps ds) (hd : Vals dvs ds) (hx : Passes CX X E)
    (ha : PA X (e :: es) t) (hdb : (x == ("__debug__" : Str)) = false := by decide) (he : starEach (e :: es) X.env = (false, eval e X.env) :: starEach es X.env := by rfl) (hpl : (backTo pos (starEach es X.env)).any (·.1) = false := by rfl) :
    PE X (.Call (.Name x p) (e :: es) [] pos) (vo sp dvs E t) := by
  intro pins s σ H Q I h
  refine wpAny_Call_Name_kw (kg I hg hm ?_ hdb)
  refine PySem.W.callWith_K (h₀ := X.base) I.ok.mod.kin hk (thn (ha pos pins s σ H _ I h) fun us s1 ⟨vs, H1, I1, r, q⟩ => ⟨I1.kIn, ?_⟩) he hpl
  exact Km F hr hb hd hx I1 r q
theorem vq {pl : Sem Bool} (he : PE X o ta) (c : Cls X.K C) (hm : Meth X.K C m f) (F : FnOk X.prog X.w X.K X.mg X.base CX k f fd ps sp) (hr : Room k X.A) (hb : Binds X.K fd ps ds) (hd : Vals dvs ds) (hx : Passes CX X E) (ha : PA X (e :: es) t)
    (hst : starEach (e :: es) X.env = (false, eval e X.env) :: starEach es X.env := by rfl) (hpl : (backTo pos (starEach es X.env)).any (·.1) = false := by rfl)
    (ht : eval (.Call (.Attribute o m apos) (e :: es) [] pos) X.env = (do
      let ov ← eval o X.env
      standAt apos.atName
      let (f, first) ← holding [ov] (getMethod ov m pl)
      callWith pos f first (backTo pos (starEach (e :: es) X.env)) (backToKw pos (keywordEach [] X.env))) := by rfl) :
    PE X (.Call (.Attribute o m apos) (e :: es) [] pos) (Vo C m sp dvs E ta t) := by
  intro pins s σ H Q I h
  refine PySem.W.methodCall_KW (pl := pl) (thn (he pins s σ H _ I h) fun u s1 ⟨x, H1, I1, rx, a, dx, fs, ex, ea, l, q⟩ => ?_) ht
  subst ex
  obtain rfl : u = Value.ref a := rx
  refine vh I1 ea c hm l ?_
  refine PySem.W.callWith_K (first := [.ref a]) (h₀ := X.base) I.ok.mod.kin hm.kp (thn (ha pos pins s1 σ H1 _ I1 q) fun us s2 ⟨vs, H2, I2, r, q2⟩ => ⟨I2.kIn, ?_⟩) hst hpl
  exact Km (us := .ref a :: us) (vs := .ref a :: vs) F hr hb hd hx I2 (.cons rfl r) q2
structure Mk (K : PySem.W.Frag) (C f : Addr) : Prop where
 makes : PySem.W.makesIn K C = true
 init : PySem.W.findIn K (.ref C) "__init__" = some (some (.ref f))
 fn : PySem.W.isFn K (.ref f) = true
 kp : PySem.W.keepIn K (.ref C) = true
theorem Vq {pins : List (Addr × Obj)} {σ : St} {H : Hp} {s : Shared} {Q : VK} {us : List Value} {vs : List V} (M : Mk X.K C f) (F : FnOk X.prog X.w X.K X.mg X.base CX k f fd ps sp) (hr : Room (k + 1) X.A) (hb : Binds X.K fd ps ds) (hd : Vals dvs ds)
    (hx : Passes CX X E) (I : Inv X pins σ H s) (r : Vals vs us)
    (h : ∀ x dx, H x = none → H dx = none → dx ≠ x → sp (.ref x :: (vs ++ dvs)) (upd (upd H dx (.own x)) x (.ins C dx [])) (fun v H2 => v = .non ∧ Q (.ref x) H2) E) :
    wpAny (model X.prog X.w) X.A (call (.ref C) us) (EP X pins σ Q) X.xe s := by
  have hq := h (s.heap.objs.size + 1) s.heap.objs.size (I.hok.fresh (Nat.le_succ _)) (I.hok.fresh (Nat.le_refl _)) (Nat.ne_of_lt (Nat.lt_succ_self _))
  have I2 := Inv.made (C := C) I
  have r2 : Vals (V.ref (s.heap.objs.size + 1) :: (vs ++ dvs)) (Value.ref (s.heap.objs.size + 1) :: (us ++ ds)) := .cons rfl (r.append hd)
  have hl : (Value.ref (s.heap.objs.size + 1) :: us ++ ds).length = ps.length := by
    have e := r2.length
    rw [F.len _ _ _ _ hq] at e
    exact e.symm
  refine wpAny_call (Vf (f := f) I.kIn M.makes M.init (beq_iff_eq.mp M.fn) (codeAny_mono (F.run _ X.stack _ _ ⟨Value.ref (s.heap.objs.size + 1) :: us, []⟩ (Value.ref (s.heap.objs.size + 1) :: (us ++ ds)) _ _ E (hr.make C us [])
    (I2.env0.make C us []) (hb _ (Value.ref (s.heap.objs.size + 1) :: us) I2.kIn hl) r2 hq) fun r s' hq' => ?_))
  cases r with
  | error e => exact hx pins σ _ _ e s' I2 hq'
  | ok fl =>
    cases fl with
    | ret u =>
      obtain ⟨v, H', I3, rv, ev, q3⟩ := I2.after hq'
      subst ev
      exact ⟨rv, ⟨V.ref (s.heap.objs.size + 1), H', I3, rfl, q3⟩⟩
    | next => exact False.elim hq'
    | brk => exact False.elim hq'
    | cont => exact False.elim hq'
theorem Vr (M : Mk X.K C f) (F : FnOk X.prog X.w X.K X.mg X.base CX k f fd ps sp) (hr : Room (k + 1) X.A) (hg : Gl X x) (hm : X.mg x = some (.ref C)) (hb : Binds X.K fd ps ds) (hd : Vals dvs ds) (hx : Passes CX X E)
    (ha : PA X (e :: es) t) (hdb : (x == ("__debug__" : Str)) = false := by decide) (he : starEach (e :: es) X.env = (false, eval e X.env) :: starEach es X.env := by rfl) (hpl : (backTo pos (starEach es X.env)).any (·.1) = false := by rfl) :
    PE X (.Call (.Name x p) (e :: es) [] pos) (vp C sp dvs E t) := by
  intro pins s σ H Q I h
  refine wpAny_Call_Name_kw (kg I hg hm ?_ hdb)
  refine PySem.W.callWith_K (h₀ := X.base) I.ok.mod.kin M.kp (thn (ha pos pins s σ H _ I h) fun us s1 ⟨vs, H1, I1, r, q⟩ => ⟨I1.kIn, ?_⟩) he hpl
  exact Vq M F hr hb hd hx I1 r q
end
section
variable {X : Cx} {CX : CXT} {k : Nat} {f C : Addr} {fd : FuncData} {ps ks : List Str} {sp : Sp} {E : XK} {x m : Str} {p pos apos kpos : Pos} {e o : Expr} {es : List Expr} {kws : List Keyword} {te ta : TE} {t tk : TA} {nm : Option Str}
variable {g : List Value → List Value → List Value} {gV : List V → List V → List V}
end
structure FnScope (N P : List Str) (sc : Scope) : Prop where
 kind : sc.kind = .function
 co : sc.isCoroutine = false
 gen : sc.isGenerator = false
 nd : N.Nodup
 pre : N.take P.length = P
 par : ∀ x ∈ P, sc.names.lookup x = some .local ∨ sc.names.lookup x = some .cell
 nofree : ∀ y ∈ sc.names, y.2 ≠ .free
theorem Nf {kindOf : Str → Option NameKind} {x : Str} : ∀ {binds : List (Str × Value)} {m : Str → Option Value}, (∀ v, (x, v) ∉ binds) → bindL kindOf binds m x = m x
 | [], _, _ => rfl
 | (n, v) :: r, m, h => by
  unfold bindL
  rw [Nf fun w hw => h w (List.mem_cons_of_mem _ hw)]
  split
  · have : x ≠ n := by rintro rfl; exact h v List.mem_cons_self
    simp [this]
  · rfl
theorem ng {kindOf : Str → Option NameKind} {x : Str} : ∀ {binds : List (Str × Value)} {m : Str → Option Value}, (∀ v, (x, v) ∉ binds) → bindC kindOf binds m x = m x
 | [], _, _ => rfl
 | (n, v) :: r, m, h => by
  unfold bindC
  rw [ng fun w hw => h w (List.mem_cons_of_mem _ hw)]
  split
  · rfl
  · have : x ≠ n := by rintro rfl; exact h v List.mem_cons_self
    simp [this]
theorem Ng {kindOf : Str → Option NameKind} {x : Str} {v : Value} : ∀ {P : List Str} {vs : List Value} {i : Nat} {m : Str → Option Value}, P.Nodup → P[i]? = some x → vs[i]? = some v → kindOf x = some .local →
    bindL kindOf (P.zip vs) m x = some v
  | [], _, _, _, _, h, _, _ => by simp at h
  | _ :: _, [], _, _, _, _, h, _ => by simp at h
  | p :: P, w :: vs, 0, m, nd, h1, h2, hk => by
    simp at h1 h2; subst h1; subst h2
    show bindL kindOf ((p, w) :: P.zip vs) m p = _
    unfold bindL
    rw [Nf fun v hv => (List.nodup_cons.mp nd).1 (List.of_mem_zip hv).1, if_pos hk]
    simp
  | p :: P, w :: vs, i + 1, m, nd, h1, h2, hk => by
    show bindL kindOf ((p, w) :: P.zip vs) m x = _
    unfold bindL
    exact Ng (i := i) (List.nodup_cons.mp nd).2 (by simpa using h1) (by simpa using h2) hk
theorem nh {kindOf : Str → Option NameKind} {x : Str} {v : Value} : ∀ {P : List Str} {vs : List Value} {i : Nat} {m : Str → Option Value}, P.Nodup → P[i]? = some x → vs[i]? = some v → kindOf x ≠ some .local →
    bindC kindOf (P.zip vs) m x = some v
  | [], _, _, _, _, h, _, _ => by simp at h
  | _ :: _, [], _, _, _, _, h, _ => by simp at h
  | p :: P, w :: vs, 0, m, nd, h1, h2, hk => by
    simp at h1 h2; subst h1; subst h2
    show bindC kindOf ((p, w) :: P.zip vs) m p = _
    unfold bindC
    rw [ng fun v hv => (List.nodup_cons.mp nd).1 (List.of_mem_zip hv).1, if_neg hk]
    simp
  | p :: P, w :: vs, i + 1, m, nd, h1, h2, hk => by
    show bindC kindOf ((p, w) :: P.zip vs) m x = _
    unfold bindC
    exact nh (i := i) (List.nodup_cons.mp nd).2 (by simpa using h1) (by simpa using h2) hk
def start (N : List Str) (vs : List V) : St := vs.map some ++ List.replicate (N.length - vs.length) none
def dw (CX : CXT) (P : Program) (w : World) (K : PySem.W.Frag) (mg : Str → Option Value) (base : Heap) (N : List Str) (qual : Str) (scope : Scope) (f : Addr) (cd : Value) (A : Around) (outer : List Env) (s : Shared) (H : Hp) (E : XK) : Cx where
 prog := P
 w := w
 K := K
 mg := mg
 base := base
 A := A.deeper (envOfC qual scope s.heap.objs.size f cd)
 N := N
 s₀ := s
 H₀ := H
 env := envOfC qual scope s.heap.objs.size f cd
 outer := outer
 stack := envOfC qual scope s.heap.objs.size f cd :: outer
 ex := []
 calm := true
 fn := fun _ => true
 pn := []
 xe := fun e s' => wpAny (model P w) (A.deeper (envOfC qual scope s.heap.objs.size f cd)) (leaving (envOfC qual scope s.heap.objs.size f cd) e) (fun _ s'' => CX outer H s E e s'') (fun e' s'' => CX outer H s E e' s'') s'
theorem Nh {sc : Scope} {n : Nat} {x : Str} (h : sc.names.lookup x = some .cell) : ∃ c, (cellsFrom n sc.names []).lookup x = some c := by
 have q := PySem.W.cellsFrom_some sc.names n [] (.inl h)
 exact Option.isSome_iff_exists.mp q
theorem Vs {CX : CXT} {P : Program} {w : World} {K : PySem.W.Frag} {mg : Str → Option Value} {base : Heap} {N ps : List Str} {qual : Str} {scope : Scope} {f : Addr} {cd : Value} {A : Around} {outer : List Env} {s s1 : Shared} {H : Hp} {E : XK} {us : List Value} {vs : List V}
    (S : FnScope N ps scope) (hd : A.handled = none) (e0 : Env0 P w K mg base A outer s H) (hl : vs.length = ps.length) (r : Vals vs us)
    (x : InCallC s s.heap.objs.size (bindL (envOfC qual scope s.heap.objs.size f cd).kindOf (ps.zip us) fun _ => none) (cellsFrom (s.heap.objs.size + 1) scope.names []) (bindC (envOfC qual scope s.heap.objs.size f cd).kindOf (ps.zip us) fun _ => none) s1) :
    Inv (dw CX P w K mg base N qual scope f cd A outer s H E) [] (start N vs) H s1 := by
  have hpl : ps.length ≤ N.length := by have := congrArg List.length S.pre; rw [List.length_take] at this; omega
  obtain ⟨h1, tk, rfl, hk⟩ := x.done
  have noA : ∀ b : Addr, b ∉ (dw CX P w K mg base N qual scope f cd A outer s H E).ex := fun b z => absurd (show b ∈ ([] : List Addr) from z) (by simp)
  refine ⟨⟨e0.mod, S.kind, rfl, rfl, Nat.le_refl _, fun y z c h1 h2 => ?_, fun y hy => ?_, fun y c _ h => ?_, fun _ => hd, Around.frames_deeper e0.frames, .inr ⟨rfl, rfl⟩, fun b z => absurd z (noA b), e0.bs, e0.bsz, fun b _ _ => noA b, fun b z => absurd z (noA b), e0.funs, e0.frf⟩,
    rfl, e0.bare, Un.kept hk, ⟨_, x.toInCall.ns, fun i y v h1 h2 h3 => ?_⟩, fun y c h => ⟨_, x.cell y c h⟩, e0.hok.fresh (Nat.le_refl _), fun y c h => ?_, fun p hp => absurd (show p ∈ ([] : List (Addr × Obj)) from hp) (by simp), e0.hok.kept hk, ?_⟩
  · exact name_of_addr x.apart (PySem.mem_of_lookup h1) (PySem.mem_of_lookup h2)
  · have hy : scope.names.lookup y = some .cell ∨ scope.names.lookup y = some .free := hy
    rcases hy with hy | hy
    · exact Nh hy
    · exact absurd rfl (S.nofree _ (PySem.mem_of_lookup hy))
  · exact Nat.le_of_lt (x.above y c (PySem.mem_of_lookup h))
  · have hi : i < vs.length := by
      unfold start at h2
      by_cases hi : i < vs.length
      · exact hi
      · rw [List.getElem?_append_right (by simpa using hi)] at h2
        rw [List.getElem?_replicate] at h2
        split at h2 <;> cases h2
    have ha : vs[i]? = some v := by
      unfold start at h2
      rw [List.getElem?_append_left (by simpa using hi), List.getElem?_map] at h2
      cases e : vs[i]? with
      | none => rw [e] at h2; cases h2
      | some a => rw [e] at h2; cases h2; rfl
    obtain ⟨u, hu, rv⟩ := r.get ha
    have hp : ps[i]? = some y := by
      rw [← S.pre, List.getElem?_take_of_lt (by omega)]; exact h1
    have ndP : ps.Nodup := by rw [← S.pre]; exact S.nd.sublist (List.take_sublist _ _)
    refine ⟨u, rv, ?_⟩
    rcases S.par y (List.mem_of_getElem? hp) with k | k
    · exact .inl ⟨k, Ng ndP hp hu k⟩
    · obtain ⟨c, e⟩ := Nh (n := s.heap.objs.size + 1) k
      refine .inr ⟨.inl k, c, e, ?_⟩
      have q := x.cell y c e
      rw [nh ndP hp hu (by show scope.names.lookup y ≠ _; rw [k]; decide)] at q
      exact q
  · exact e0.hok.fresh (Nat.le_of_lt (x.above y c (PySem.mem_of_lookup h)))
  · unfold start
    show _ = N.length
    rw [List.length_append, List.length_map, List.length_replicate]
    omega
theorem ni {CX : CXT} {P : Program} {w : World} {K : PySem.W.Frag} {mg : Str → Option Value} {base : Heap} {k : Nat} {f : Addr} {name qual : Str} {params : Arguments} {body : List Stmt} {scope : Scope} {dV kV doc pm cdv ct oc : Value} {an od : Option Addr}
    {osl : Array (Option Value)} {N ps : List Str} {sp : Sp} (lk : K.lookup f = some ⟨oc, od, .func (PySem.W.fnOf name qual params body scope dV kV doc pm an cdv ct), osl⟩) (hcd : PySem.W.codeIn K cdv qual = true) (S : FnScope N ps scope)
    (len : ∀ vs H Q E, sp vs H Q E → vs.length = ps.length)
    (hbody : ∀ (A : Around) (outer : List Env) (s : Shared) (H : Hp) (vs : List V) (Q : VK) (E : XK), Room k (A.deeper (envOfC qual scope s.heap.objs.size f cdv)) → sp vs H Q E →
      ∃ t, PSs (dw CX P w K mg base N qual scope f cdv A outer s H E) body t ∧ t { nx := fun _ H' => Q .non H', rt := Q } (start N vs) H) :
    FnOk P w K mg base CX (k + 1) f (PySem.W.fnOf name qual params body scope dV kV doc pm an cdv ct) ps sp := by
  refine ⟨len, fun A outer s H args us vs Q E hr e0 hb r hsp => ?_⟩
  have hl := len _ _ _ _ hsp
  have KX : K.In s.heap := e0.mod.kin.keeps fun b o e => (e0.bs b o e).1
  have lim : s.heap.NoLimit := e0.mod.nolimit.keeps fun b o e => (e0.bs b o e).1
  have hkind : ∀ y ∈ ps.zip us, scope.names.lookup y.1 = some .local ∨ (scope.names.lookup y.1 = some .cell ∧ ((cellsFrom (s.heap.objs.size + 1) scope.names []).lookup y.1).isSome = true) := fun ⟨n, v⟩ hy => by
    rcases S.par n (List.of_mem_zip hy).1 with q | q
    · exact .inl q
    · exact .inr ⟨q, PySem.W.cellsFrom_some _ _ _ (.inl q)⟩
  refine codeAny_call_function hr.depth (KX _ _ lk) rfl S.co S.gen rfl (PySem.W.codeRec_of KX hcd) (hb _ _ _ _ ?_)
  refine wpAny_newFunctionEnv_cells S.kind hkind fun env he s1 x => ?_
  subst he
  refine ⟨lim.keeps x.toInCall.keep, codeAny_func ?_⟩
  obtain ⟨t, ht, hq⟩ := hbody A outer s H vs Q E (hr.deeper _) hsp
  have I : Inv (dw CX P w K mg base N qual scope f cdv A outer s H E) [] (start N vs) H s1 := Vs S hr.hd e0 hl r x
  refine wpAny_mono (ht [] s1 (start N vs) H _ I hq) (fun fl s' hs => ?_) fun e s' hs => hs
  have fin : ∀ {σ' : St} {H' : Hp} {v : V} {u : Value}, Inv (dw CX P w K mg base N qual scope f cdv A outer s H E) [] σ' H' s' → RelV v u → Q v H' → CE outer P w H s Q u s' :=
    fun {σ' H' v u} J rv q => ⟨v, H', J.os, J.bare, J.base, J.hok, rv, q⟩
  cases fl with
  | ret u =>
    obtain ⟨v, σ', H', J, rv, q⟩ := hs
    exact fin J rv q
  | next =>
    obtain ⟨σ', H', J, q⟩ := hs
    exact fin (v := V.non) (u := Value.none) J rfl q
  | brk =>
    obtain ⟨_, _, _, q⟩ := hs
    exact False.elim q
  | cont =>
    obtain ⟨_, _, _, q⟩ := hs
    exact False.elim q
end L2
namespace L2
open PySem PySem.Spec PyProof.Rows
section
variable {X : Cx} {x : Str} {p pos : Pos} {e : Expr} {es : List Expr} {t : TA} {id T : String} {r : List V → Hp → VK → Prop}
def tCB (r : List V → Hp → VK → Prop) (t : TA) : TE := fun σ H Q => t σ H fun vs H1 => r vs H1 Q
theorem ir (hc : cu X (.builtin id) r) (hg : Gl X x) (hm : X.mg x = none) (hv : bootBuiltins x = some (.builtin id)) (ha : PA X (e :: es) t) (hn : x ≠ "__name__" := by decide) (hdb : (x == ("__debug__" : Str)) = false := by decide)
    (he : starEach (e :: es) X.env = (false, eval e X.env) :: starEach es X.env := by rfl) (hpl : (backTo pos (starEach es X.env)).any (·.1) = false := by rfl) : PE X (.Call (.Name x p) (e :: es) [] pos) (tCB r t) := by
  intro pins s σ H Q I h
  refine wpAny_Call_Name_kw (fk I hg hm hv ?_ hn hdb)
  exact PyProof.Rows.callWith_builtin1 (thn (ha pos pins s σ H _ I h) fun us s1 ⟨vs, H1, I1, r1, q1⟩ => hc pins s1 σ H1 vs us Q I1 r1 q1) he hpl
theorem vt (hc : cu X (.type T) r) (hg : Gl X x) (hm : X.mg x = none) (hv : bootBuiltins x = some (.type T)) (ha : PA X (e :: es) t) (hn : x ≠ "__name__" := by decide) (hdb : (x == ("__debug__" : Str)) = false := by decide)
    (he : starEach (e :: es) X.env = (false, eval e X.env) :: starEach es X.env := by rfl) (hpl : (backTo pos (starEach es X.env)).any (·.1) = false := by rfl) : PE X (.Call (.Name x p) (e :: es) [] pos) (tCB r t) := by
  intro pins s σ H Q I h
  refine wpAny_Call_Name_kw (fk I hg hm hv ?_ hn hdb)
  exact PyProof.Rows.callWith_type1 (thn (ha pos pins s σ H _ I h) fun us s1 ⟨vs, H1, I1, r1, q1⟩ => hc pins s1 σ H1 vs us Q I1 r1 q1) he hpl
end
end L2
namespace HT
open PySem PyProof.Rows
section
open PySem.SeqAt
open PySem.AutoSeq1 (wpAny_loadPart')
open PySem.MeetsSeq PySem.MeetsSeq2 PySem.MeetsSeq3
end
section
variable {prog : Program} {w : World} {A : Around} {E : Value → Shared → Prop} {s : Shared}
def sIx (n d : Nat) : Option Int → Nat
 | none => d
 | some v => if v < 0 then (v + (n : Int)).toNat else min v.toNat n
theorem Vt (n d : Nat) (hd : d ≤ n) (o : Option Int) : sIx n d o ≤ n := by
 cases o with
 | none => exact hd
 | some v =>
  show (if v < 0 then (v + (n : Int)).toNat else min v.toNat n) ≤ n
  by_cases hv : v < 0
  · rw [if_pos hv]; omega
  · rw [if_neg hv]; exact Nat.min_le_right _ _
theorem Ni (v : Int) (n d : Nat) : (if v < 0 then max (v + (n : Int)) 0 else min v (n : Int)) = ((sIx n d (some v) : Nat) : Int) := by
 show (if v < 0 then max (v + (n : Int)) 0 else min v (n : Int)) = (((if v < 0 then (v + (n : Int)).toNat else min v.toNat n) : Nat) : Int)
 by_cases hv : v < 0
 · simp only [if_pos hv]; omega
 · simp only [if_neg hv]; omega
theorem Vu (lo hi : Option Int) (n : Nat) : Builtin.Slice.sliceAdjust lo hi 1 (n : Int) = (((sIx n 0 lo : Nat) : Int), ((sIx n n hi : Nat) : Int)) := by
 have h1 : ¬ ((1 : Int) < 0) := by omega
 unfold Builtin.Slice.sliceAdjust
 simp only [h1, if_false]
 refine Prod.ext ?_ ?_
 · cases lo with
   | none => rfl
   | some v => exact Ni v n 0
 · cases hi with
   | none => rfl
   | some v => exact Ni v n n
theorem Vv (i j : Nat) : Builtin.Slice.slicePlaces (i : Int) (j : Int) 1 = j - i := by
 unfold Builtin.Slice.slicePlaces
 have h1 : (1 : Int) > 0 := by omega
 simp only [h1, if_true, Int.ediv_one]
 split <;> omega
theorem nj {v : Value} {o : Option Int} {Q : Option Int → Shared → Prop} (p : IsPart v o) (h : Q o s) : wpAny (model prog w) A (Builtin.Slice.slicePartIndex v) Q E s := by
 cases p with
 | none => exact slicePart_none h
 | int i t => exact slicePart_int h
theorem Nj {sl : Addr} {vl vu : Value} {lo hi : Option Int} {n : Nat} {Q : Int × Int × Nat → Shared → Prop} (hs : s.heap.IsSliceOf sl vl vu .none) (pl : IsPart vl lo) (pu : IsPart vu hi)
    (h : Q (((sIx n 0 lo : Nat) : Int), 1, sIx n n hi - sIx n 0 lo) s) : wpAny (model prog w) A (Builtin.Slice.sliceApplied (.ref sl) (pure (n : Int))) Q E s := by
  obtain ⟨os, hos, hcs, hds⟩ := id hs
  unfold Builtin.Slice.sliceApplied Builtin.Slice.sliceFields
  refine wpAny_bind (wpAny_bind (wpAny_field hos hds (x := vl) rfl (wpAny_bind (wpAny_field hos hds (x := vu) rfl (wpAny_bind (wpAny_field hos hds (x := .none) rfl (wpAny_pure ?_)))))))
  refine wpAny_bind (slicePart_none ?_)
  show wpAny _ _ (if ((1 : Int) == 0) = true then _ else _) _ _ s
  rw [if_neg (by decide)]
  refine wpAny_bind (nj pl (wpAny_bind (nj pu (wpAny_bind (wpAny_pure ?_)))))
  show wpAny _ _ (match Builtin.Slice.sliceAdjust lo hi 1 (n : Int) with | (lo, hi) => pure (lo, (1 : Int), Builtin.Slice.slicePlaces lo hi 1)) _ _ s
  rw [Vu lo hi n]
  show wpAny _ _ (pure (((sIx n 0 lo : Nat) : Int), (1 : Int), Builtin.Slice.slicePlaces ((sIx n 0 lo : Nat) : Int) ((sIx n n hi : Nat) : Int) 1)) _ _ s
  rw [Vv]
  exact wpAny_pure h
theorem vw (xs : Array Value) (i k : Nat) : ((List.range k).filterMap fun (m : Nat) => xs[((i : Int) + (m : Int) * 1).toNat]?).toArray = ((xs.toList.drop i).take k).toArray := by
 have e : (fun (m : Nat) => xs[((i : Int) + (m : Int) * 1).toNat]?) = fun m => xs[i + m]? := by
  funext m
  have : ((i : Int) + (m : Int) * 1).toNat = i + m := by omega
  rw [this]
 rw [e]
 have := pick_run xs i k
 rw [List.filterMap_map] at this
 have e2 : ((fun x => xs[x]?) ∘ fun x => i + x) = fun m => xs[i + m]? := rfl
 rw [e2] at this
 rw [this]
theorem Vw {t sl : Addr} {items : Array Value} {vl vu : Value} {lo hi : Option Int} {Q : Value → Shared → Prop} (ht : IsTup s.heap t items) (hs : s.heap.IsSliceOf sl vl vu .none) (pl : IsPart vl lo) (pu : IsPart vu hi)
    (hw : ¬ (sIx items.size 0 lo = 0 ∧ sIx items.size items.size hi = items.size))
    (h : Q (.ref s.heap.objs.size) { s with heap := s.heap.push { cls := .type "tuple", data := .seq ((items.toList.drop (sIx items.size 0 lo)).take (sIx items.size items.size hi - sIx items.size 0 lo)).toArray } })
    (hsz : items.size ≤ sizeLine) : wpAny (model prog w) A (getItem (.ref t) (.ref sl)) Q E s := by
  have htake : sizeOk (.seq ((items.toList.drop (sIx items.size 0 lo)).take (sIx items.size items.size hi - sIx items.size 0 lo)).toArray) := by
    show ((items.toList.drop (sIx items.size 0 lo)).take (sIx items.size items.size hi - sIx items.size 0 lo)).toArray.size ≤ sizeLine
    rw [List.size_toArray, List.length_take, List.length_drop, Array.length_toList]
    omega
  have hj : sIx items.size items.size hi ≤ items.size := Vt _ _ (Nat.le_refl _) hi
  obtain ⟨os, hos, hcs, hds⟩ := id hs
  have hTs : s.TypeIs (.ref sl) "slice" := ⟨os, hos, hcs⟩
  unfold getItem
  try with_reducible refine wpAny_holding ?_
  first | refine wpAny_bind (wpAny_pure ?_) | skip
  refine wpAny_bind (wpAny_sequenceKey ht.typeIs (by decide) ?_)
  refine wpAny_bind (wpAny_callSpecial?_slot (name := Str.ofString "__getitem__") ht.typeIs PyProof.Rows.slot_tuple_getitem
    (wpAny_call_entry PyProof.Rows.slot_tuple_getitem ht.typeIs entry_tuple_getitem ?_ (args_tuple_getitem _ _)))
  show wpAny _ _ (Builtin.Tuple.tupleItemsOf (.ref t) >>= _) _ _ s
  refine wpAny_bind (tupleItemsOf_ ht ?_)
  refine wpAny_bind (wpAny_typeOf hTs ?_)
  rw [if_pos (by decide)]
  refine wpAny_bind (Nj hs pl pu ?_)
  have hno : ¬ ((((sIx items.size 0 lo : Nat) : Int) == 0 && (1 : Int) == 1 && (sIx items.size items.size hi - sIx items.size 0 lo) == items.size) = true) := by
    intro q
    rw [Bool.and_eq_true, Bool.and_eq_true] at q
    have q1 : ((sIx items.size 0 lo : Nat) : Int) = 0 := eq_of_beq q.1.1
    have q2 : sIx items.size items.size hi - sIx items.size 0 lo = items.size := eq_of_beq q.2
    exact hw ⟨by omega, by omega⟩
  show wpAny _ _ (if (((sIx items.size 0 lo : Nat) : Int) == 0 && (1 : Int) == 1 && (sIx items.size items.size hi - sIx items.size 0 lo) == items.size) = true then _ else _) _ _ s
  rw [if_neg hno, vw]
  first
    | exact wpAny_bind (m := Builtin.Tuple.tupleExact _) (wpAny_newObj_type (wpAny_pure ⟨_, rfl, wpAny_pure h⟩) htake)
    | exact wpAny_bind (m := Builtin.Tuple.tupleExact _) (wpAny_newObj_type (wpAny_bind (wpAny_pure (wpAny_pure ⟨_, rfl, wpAny_pure h⟩))) htake)
    | exact wpAny_bind (wpAny_bind (m := Builtin.Tuple.tupleExact _) (wpAny_newObj_type (wpAny_pure (wpAny_pure ⟨_, rfl, wpAny_pure h⟩)) htake))
    | exact wpAny_bind (wpAny_bind (m := Builtin.Tuple.tupleExact _) (wpAny_newObj_type (wpAny_pure ⟨_, rfl, wpAny_pure h⟩) htake))
end
end HT
namespace L2
open PySem PySem.Spec PyProof.Rows
abbrev TO := St → Hp → (Option Int → Hp → Prop) → Prop
def PO (X : Cx) (e : Option Expr) (t : TO) : Prop :=
 ∀ (pins : List (Addr × Obj)) (s : Shared) (σ : St) (H : Hp) (Q : Option Int → Hp → Prop), Inv X pins σ H s → t σ H Q →
  wpAny (model X.prog X.w) X.A (evalPart e X.env) (fun u s' => ∃ o H', Inv X pins σ H' s' ∧ IsPart u o ∧ Q o H') X.xe s
def Vx : TO := fun _ H Q => Q none H
def vy (t : TE) : TO := fun σ H Q => t σ H fun x H1 => ∃ i, x = .int i ∧ Q (some i) H1
section
variable {X : Cx} {e : Expr} {te : TE} {lo hi : Option Expr} {tl th : TO} {pos p2 : Pos}
theorem nk : PO X none Vx := by
 intro pins s σ H Q I h
 rw [evalPart_none]
 exact wpAny_pure ⟨none, H, I, .none, h⟩
theorem Kn (h : PE X e te) : PO X (some e) (vy te) := by
 intro pins s σ H Q I hw
 rw [evalPart_some]
 refine thn (h pins s σ H _ I hw) fun u s1 ⟨x, H1, I1, r1, q1⟩ => ?_
 obtain ⟨i, rfl, q⟩ := q1
 obtain ⟨t, rfl⟩ := r1
 exact ⟨some i, H1, I1, .int i t, q⟩
def SlR (X : Cx) (r : V → Option Int → Option Int → Hp → VK → Prop) : Prop :=
 ∀ (pins : List (Addr × Obj)) (s : Shared) (σ : St) (H : Hp) (x : V) (v vl vu : Value) (lo hi : Option Int) (sl : Addr) (Q : VK), Inv X pins σ H s → RelV x v → s.heap.IsSliceOf sl vl vu .none → IsPart vl lo → IsPart vu hi → r x lo hi H Q →
  ∃ T id, typeLookup (.type T) "__getitem__" = pure (some (.builtin id)) ∧ s.TypeIs v T ∧ wpAny (model X.prog X.w) X.A (getItem v (.ref sl)) (EP X pins σ Q) X.xe s
theorem SlR.or {r r' : V → Option Int → Option Int → Hp → VK → Prop} (h : SlR X r) (h' : SlR X r') : SlR X (fun x lo hi H Q => r x lo hi H Q ∨ r' x lo hi H Q) := by
 intro pins s σ H x v vl vu lo hi sl Q I rx hs pl pu q
 rcases q with q | q
 · exact h pins s σ H x v vl vu lo hi sl Q I rx hs pl pu q
 · exact h' pins s σ H x v vl vu lo hi sl Q I rx hs pl pu q
def tSl (r : V → Option Int → Option Int → Hp → VK → Prop) (te : TE) (tl th : TO) : TE := fun σ H Q => te σ H fun x H1 => tl σ H1 fun l H2 => th σ H2 fun u H3 => r x l u H3 Q
theorem Nk {r : V → Option Int → Option Int → Hp → VK → Prop} (hr : SlR X r) (he : PE X e te) (hl : PO X lo tl) (hu : PO X hi th) : PE X (.Subscript e (.Slice lo hi none p2) pos) (tSl r te tl th) := by
 intro pins s σ H Q I h
 refine Subscript_ (thn (he pins s σ H _ I h) fun v s1 ⟨x, H1, I1, r1, q1⟩ => ?_)
 refine wpAny_Slice (thn (hl pins s1 σ H1 _ I1 q1) fun vl s2 ⟨l, H2, I2, pl, q2⟩ => thn (hu pins s2 σ H2 _ I2 q2) fun vu s3 ⟨u, H3, I3, pu, q3⟩ => ?_)
 rw [evalPart_none]
 refine wpAny_pure ?_
 have I4 : Inv X pins σ H3 { s3 with heap := s3.heap.push { cls := .type "slice", data := .fields #[vl, vu, .none] } } := I3.kept (t' := s3.toks) fun b ob q => Heap.get?_push_of_some _ q
 obtain ⟨T, id, hT, ht, hg⟩ := hr pins { s3 with heap := s3.heap.push { cls := .type "slice", data := .fields #[vl, vu, .none] } } σ H3 x v vl vu l u s3.heap.objs.size Q I4 r1 (Heap.IsSliceOf.new ..) pl pu q3
 show wpAny (model X.prog X.w) X.A (subscriptTail e (.Slice lo hi none p2) v (.ref s3.heap.objs.size)) (EP X pins σ Q) X.xe { s3 with heap := s3.heap.push { cls := .type "slice", data := .fields #[vl, vu, .none] } }
 exact tail_any (ops := [.ref s3.heap.objs.size, v]) ht hT hg (by with_unfolding_all rfl)
def da (xs : List V) (lo hi : Option Int) : List V := (xs.drop (HT.sIx xs.length 0 lo)).take (HT.sIx xs.length xs.length hi - HT.sIx xs.length 0 lo)
theorem ko (xs : List V) (lo hi : Option Int) : (da xs lo hi).length ≤ xs.length := by
 unfold da
 rw [List.length_take, List.length_drop]
 omega
def Nl (K : PySem.W.Frag) : V → Option Int → Option Int → Hp → VK → Prop := fun x lo hi H Q => ∃ a xs, x = .ref a ∧ SqT K H a xs ∧
 ¬ (HT.sIx xs.length 0 lo = 0 ∧ HT.sIx xs.length xs.length hi = xs.length) ∧ ∀ p, H p = none → Q (.ref p) (upd H p (.tup (da xs lo hi)))
theorem Vy : SlR X (Nl X.K) := by
 intro pins s σ H x v vl vu lo hi sl Q I rx hs pl pu h
 obtain ⟨a, xs, rfl, hx, hw, q⟩ := h
 cases rx
 obtain ⟨its, r, ht, hz⟩ := I.tuple hx
 have hlen : its.toArray.size = xs.length := by rw [List.size_toArray]; exact r.length.symm
 refine ⟨"tuple", _, PyProof.Rows.slot_tuple_getitem.lookup, ht.typeIs, ?_⟩
 refine HT.Vw ht hs pl pu (by rw [hlen]; exact hw) ?_ (by rw [hlen]; exact hz)
 rw [hlen]
 refine ⟨.ref s.heap.objs.size, _, I.laid (t' := s.toks) (o := .tup (da xs lo hi)) (fun b ob q => Heap.get?_push_of_some _ q) (Nat.le_refl _) ?_, rfl, q _ (I.hok.fresh (Nat.le_refl _))⟩
 exact ⟨Nat.le_trans (ko xs lo hi) hz, _, (r.drop (HT.sIx xs.length 0 lo)).take (HT.sIx xs.length xs.length hi - HT.sIx xs.length 0 lo), IsTup.new _ _⟩
end
end L2
namespace L2
open PySem PySem.Spec PyProof.Rows
def ixN (n : Nat) (i : Int) : Option Nat := if 0 ≤ i then (if i < n then some i.toNat else none) else if -(n : Int) ≤ i then some (i + n).toNat else none
def atI {α : Type} (xs : List α) (i : Int) : Option α := (ixN xs.length i).bind fun j => xs[j]?
theorem vz {n : Nat} {i : Int} {j : Nat} (h : ixN n i = some j) : seqIndex? i n = some j ∧ j < n ∧ -(n : Int) ≤ i ∧ i < n := by
 unfold ixN at h
 by_cases h0 : 0 ≤ i
 · rw [if_pos h0] at h
   by_cases h1 : i < n
   · rw [if_pos h1] at h
     have e : i.toNat = j := Option.some.inj h
     exact ⟨by rw [seqIndex_of h0 h1, e], by omega, by omega, h1⟩
   · rw [if_neg h1] at h; cases h
 · rw [if_neg h0] at h
   by_cases h1 : -(n : Int) ≤ i
   · rw [if_pos h1] at h
     have e : (i + n).toNat = j := Option.some.inj h
     exact ⟨by rw [seqIndex_neg (by omega) h1, e], by omega, h1, by omega⟩
   · rw [if_neg h1] at h; cases h
theorem Ko {α : Type} {xs : List α} {i : Int} {v : α} (h : atI xs i = some v) : ∃ j, seqIndex? i xs.length = some j ∧ xs[j]? = some v ∧ j < xs.length ∧ -(xs.length : Int) ≤ i ∧ i < xs.length := by
 unfold atI at h
 cases e : ixN xs.length i with
 | none => rw [e] at h; cases h
 | some j =>
  rw [e] at h
  obtain ⟨h1, h2, h3, h4⟩ := vz e
  exact ⟨j, h1, h, h2, h3, h4⟩
def Ir (b : Expr) : Prop := ∀ o i, subscripted b false o i = operate [o, i] (getItem o i)
def IxR (X : Cx) (r : R2) : Prop :=
 ∀ (value slice : Expr) (pins : List (Addr × Obj)) (s : Shared) (σ : St) (H : Hp) (x y : V) (v u : Value) (Q : VK), Inv X pins σ H s → RelV x v → RelV y u → r x y H Q →
  subscripted slice false v u = operate [v, u] (getItem v u) → wpAny (model X.prog X.w) X.A (subscriptTail value slice v u) (EP X pins σ Q) X.xe s
def MtR (X : Cx) (id : String) (r : V → List V → Hp → VK → Prop) : Prop :=
 ∀ (pins : List (Addr × Obj)) (s : Shared) (σ : St) (H : Hp) (x : V) (xs : List V) (v : Value) (us : List Value) (Q : VK), Inv X pins σ H s → RelV x v → Vals xs us → r x xs H Q →
  wpAny (model X.prog X.w) X.A (call (.builtin id) (v :: us)) (EP X pins σ Q) X.xe s
section
variable {X : Cx} {a b : Expr} {ta tb : TE} {pos : Pos}
theorem IxR.or {r r' : R2} (h : IxR X r) (h' : IxR X r') : IxR X (fun x y H Q => r x y H Q ∨ r' x y H Q) := by
 intro value slice pins s σ H x y v u Q I rx ry q hs
 rcases q with q | q
 · exact h value slice pins s σ H x y v u Q I rx ry q hs
 · exact h' value slice pins s σ H x y v u Q I rx ry q hs
theorem Kp {r : R2} (hr : IxR X r) (ha : PE X a ta) (hb : PE X b tb) (hs : Ir b) : PE X (.Subscript a b pos) (tOp r ta tb) := by
 intro pins s σ H Q I h
 exact Subscript_ (Kh ha hb I h fun v u s2 x y H2 I2 rx ry q => hr a b pins s2 σ H2 x y v u Q I2 rx ry q (hs _ _))
def Nm (K : PySem.W.Frag) : R2 := fun x y H Q => ∃ p xs i v, x = .ref p ∧ y = .int i ∧ SqL K H p xs ∧ atI xs i = some v ∧ Q v H
def Nn (K : PySem.W.Frag) : R2 := fun x y H Q => ∃ p xs i v, x = .ref p ∧ y = .int i ∧ SqT K H p xs ∧ atI xs i = some v ∧ Q v H
def Np : R2 := fun x y H Q => ∃ z i c, x = .str z ∧ y = .int i ∧ z.length ≤ sizeLine ∧ atI z.cps.toList i = some c ∧ Q (.str ⟨#[c]⟩) H
theorem Vz : IxR X (Nm X.K) := by
 intro value slice pins s σ H x y v u Q I rx ry h hs
 obtain ⟨p, xs, i, z, rfl, rfl, hq, he, q⟩ := h
 cases rx
 obtain ⟨t, rfl⟩ := ry
 obtain ⟨its, r, pl, hz⟩ := I.list hq
 obtain ⟨j, h1, h2, h3, h4, h5⟩ := Ko he
 obtain ⟨w, ew, rw'⟩ := r.get h2
 have hl := r.length
 have hn := gr
 have fin : EP X pins σ Q w s := ⟨z, H, I, rw', q⟩
 by_cases h0 : 0 ≤ i
 · have hj : i.toNat = j := by
    rw [seqIndex_of h0 h5] at h1
    exact Option.some.inj h1
   exact item_listR pl.isList h0 (by omega) (by rw [hj]; simpa using ew) fin hs
 · have hj : (i + (its.toArray.size : Int)).toNat = j := by
    rw [seqIndex_neg (by omega) h4] at h1
    rw [List.size_toArray, ← hl]
    exact Option.some.inj h1
   exact subscriptTail_builtinR (x := w) pl.isList.typeIs slot_list_getitem.lookup
    (wpAny_getItem_list_neg (Q := fun r s' => r = w ∧ EP X pins σ Q r s') pl.isList (by omega) (by rw [List.size_toArray] <;> omega) (by omega) (by rw [hj]; simpa using ew) ⟨rfl, fin⟩) hs
theorem wa : IxR X (Nn X.K) := by
 intro value slice pins s σ H x y v u Q I rx ry h hs
 obtain ⟨p, xs, i, z, rfl, rfl, hq, he, q⟩ := h
 cases rx
 obtain ⟨t, rfl⟩ := ry
 obtain ⟨its, r, pl, hz⟩ := I.tuple hq
 obtain ⟨j, h1, h2, h3, h4, h5⟩ := Ko he
 obtain ⟨w, ew, rw'⟩ := r.get h2
 have hl := r.length
 have hn := gr
 have fin : EP X pins σ Q w s := ⟨z, H, I, rw', q⟩
 exact subscriptTail_builtinR (x := w) pl.typeIs slot_tuple_getitem.lookup
  (getItem_tuple (j := j) (Q := fun r s' => r = w ∧ EP X pins σ Q r s') pl (by omega) (by omega) (by rw [List.size_toArray, ← hl]; exact h1) (by simpa using ew) ⟨rfl, fin⟩) hs
theorem Wa : IxR X Np := by
 intro value slice pins s σ H x y v u Q I rx ry h hs
 obtain ⟨z, i, c, rfl, rfl, hz, he, q⟩ := h
 obtain ⟨t, rfl⟩ := rx
 obtain ⟨t', rfl⟩ := ry
 obtain ⟨j, h1, h2, h3, h4, h5⟩ := Ko he
 have hl : z.cps.toList.length = z.length := by simp [Str.length]
 rw [hl] at h1 h4 h5
 have hn := gr
 exact tail_any (typeIs_str s z t) slot_str_getitem.lookup (getItem_str (c := c) (by
  have e1 : decide (i < -(2 ^ 63 : Int)) = false := decide_eq_false (by omega)
  have e2 : decide (i ≥ 2 ^ 63) = false := decide_eq_false (by omega)
  rw [e1, e2, Bool.or_false]) (by rw [h1]; simpa using h2) ⟨.str ⟨#[c]⟩, H, I.tok _, ⟨_, rfl⟩, q⟩) hs
def rIx (K : PySem.W.Frag) : R2 := fun x y H Q => Nm K x y H Q ∨ Nn K x y H Q ∨ Np x y H Q
theorem wb : IxR X (rIx X.K) := Vz.or (wa.or Wa)
theorem Inv.lst {pins : List (Addr × Obj)} {σ : St} {H : Hp} {s : Shared} {p : Addr} {xs : List V} (I : Inv X pins σ H s) (h : H p = some (.lst xs)) :
    ∃ (its : List Value) (n : Nat), Vals xs its ∧ s.heap.get? p = some { cls := .type "list", data := .seq its.toArray n } ∧ xs.length ≤ sizeLine := by
  obtain ⟨z, its, n, r, e⟩ := I.hok p _ h
  exact ⟨its, n, r, e, z⟩
theorem Wb (lo hi : Option Int) (n : Nat) : (sliceBounds lo hi none n).1 = ((HT.sIx n 0 lo : Nat) : Int) ∧ (sliceBounds lo hi none n).2.1 = ((HT.sIx n n hi : Nat) : Int) ∧ (sliceBounds lo hi none n).2.2 = 1 := by
 refine ⟨?_, ?_, rfl⟩
 · cases lo with
   | none => simp [sliceBounds, HT.sIx]
   | some i =>
    simp only [sliceBounds, HT.sIx, Option.getD_none, show (1 : Int) > 0 by decide, if_true]
    by_cases h : i < 0
    · simp only [h, if_true] <;> omega
    · simp only [h, if_false] <;> omega
 · cases hi with
   | none => simp [sliceBounds, HT.sIx]
   | some i =>
    simp only [sliceBounds, HT.sIx, Option.getD_none, show (1 : Int) > 0 by decide, if_true]
    by_cases h : i < 0
    · simp only [h, if_true] <;> omega
    · simp only [h, if_false] <;> omega
theorem wc (its : List Value) (lo hi : Option Int) : slicePick its.toArray lo hi none = ((its.drop (HT.sIx its.length 0 lo)).take (HT.sIx its.length its.length hi - HT.sIx its.length 0 lo)).toArray := by
 obtain ⟨h1, h2, h3⟩ := Wb lo hi its.toArray.size
 unfold slicePick
 rw [h1, h2, h3]
 simp only [sliceRange_one, pick_run, List.size_toArray] <;> rfl
def iu (K : PySem.W.Frag) : V → Option Int → Option Int → Hp → VK → Prop := fun x lo hi H Q => ∃ a xs, x = .ref a ∧ SqL K H a xs ∧ ∀ p, H p = none → Q (.ref p) (upd H p (.lst (da xs lo hi)))
theorem nq : SlR X (iu X.K) := by
 intro pins s σ H x v vl vu lo hi sl Q I rx hs pl pu h
 obtain ⟨a, xs, rfl, hx, q⟩ := h
 cases rx
 obtain ⟨its, r, ht, hz⟩ := I.list hx
 have hlen := r.length
 refine ⟨"list", _, slot_list_getitem.lookup, ht.isList.typeIs, ?_⟩
 refine wpAny_getItem_list_slice ht.isList hs pl pu .none (by simp) ?_ (by rw [List.size_toArray] <;> omega)
 rw [wc, ← hlen]
 refine ⟨.ref s.heap.objs.size, _, I.laid (t' := s.toks) (o := .lst (da xs lo hi)) (fun b ob q => Heap.get?_push_of_some _ q) (Nat.le_refl _) ?_, rfl, q _ (I.hok.fresh (Nat.le_refl _))⟩
 exact ⟨Nat.le_trans (ko xs lo hi) hz, _, 0, (r.drop (HT.sIx xs.length 0 lo)).take (HT.sIx xs.length xs.length hi - HT.sIx xs.length 0 lo), Heap.get?_push_size _ rfl⟩
noncomputable def eqV : V → V → Bool
 | .non, .non => true
 | .bl a, .bl b => a == b
 | .bl a, .int b => (if a then 1 else 0) == b
 | .int a, .bl b => a == (if b then 1 else 0)
 | .int a, .int b => a == b
 | .str a, .str b => a == b
 | _, _ => false
theorem Wc : cu X (.builtin "len") (fun xs H Q => ∃ p ys, xs = [.ref p] ∧ (SqL X.K H p ys ∨ SqT X.K H p ys) ∧ Q (.int ys.length) H) := by
 intro pins s σ H xs us Q I r h
 obtain ⟨p, ys, rfl, hq, q⟩ := h
 obtain ⟨u, rfl, rx⟩ := vals1 r
 cases rx
 have hn := gr
 rcases hq with hq | hq
 · obtain ⟨its, r', pl, hz⟩ := I.list hq
   have hlen := r'.length
   exact Calls.call_len_list pl.isList (by simp only [List.size_toArray] <;> omega) ⟨.int ys.length, H, I.tok _, ⟨s.toks + 1, by rw [List.size_toArray, hlen]⟩, q⟩
 · obtain ⟨its, r', pl, hz⟩ := I.tuple hq
   have hlen := r'.length
   exact len_tuple pl (by simp only [List.size_toArray] <;> omega) ⟨.int ys.length, H, I.tok _, ⟨s.toks + 1, by rw [List.size_toArray, hlen]⟩, q⟩
theorem Wd : cu X (.builtin "len") (fun xs H Q => ∃ z, xs = [.str z] ∧ z.length ≤ sizeLine ∧ Q (.int z.length) H) := by
 intro pins s σ H xs us Q I r h
 obtain ⟨z, rfl, hz, q⟩ := h
 obtain ⟨u, rfl, t, rfl⟩ := vals1 r
 have hn := gr
 exact len_str (by omega) ⟨.int z.length, H, I.tok _, ⟨_, rfl⟩, q⟩
theorem cu.or {f : Value} {r r' : List V → Hp → VK → Prop} (h : cu X f r) (h' : cu X f r') : cu X f (fun xs H Q => r xs H Q ∨ r' xs H Q) := by
 intro pins s σ H xs us Q I rs q
 rcases q with q | q
 · exact h pins s σ H xs us Q I rs q
 · exact h' pins s σ H xs us Q I rs q
theorem we : cu X (.type "list") (fun xs H Q => ∃ p ys, xs = [.ref p] ∧ (SqL X.K H p ys ∨ SqT X.K H p ys) ∧ ∀ l, H l = none → Q (.ref l) (upd H l (.lst ys))) := by
  intro pins s σ H xs us Q I r h
  obtain ⟨p, ys, rfl, hq, q⟩ := h
  obtain ⟨u, rfl, rx⟩ := vals1 r
  cases rx
  have fin : ∀ (its : List Value), Vals ys its → ys.length ≤ sizeLine → ∀ (h' : Heap) (c' : Nat), (∀ b o', s.heap.get? b = some o' → h'.get? b = some o') →
      h'.get? s.heap.objs.size = some { cls := .type "list", dict := none, data := .seq its.toArray c', slots := #[] } → EP X pins σ Q (.ref s.heap.objs.size) { s with heap := h' } := fun its r' hz h' c' kp e =>
    ⟨.ref s.heap.objs.size, _, I.laid (t' := s.toks) kp (Nat.le_refl _) (show bg X.prog X.w _ h' _ (.lst ys) from ⟨hz, its, c', r', e⟩), rfl, q _ (I.hok.fresh (Nat.le_refl _))⟩
  rcases hq with hq | hq
  · obtain ⟨its, r', pl, hz⟩ := I.list hq
    have hlen := r'.length
    obtain ⟨o, ho, hc, n, hd⟩ := pl.isList
    exact call_list_seq p (.inl rfl) ho hc hd (fun h' c' kp e => fin its r' hz h' c' kp e) (by simp only [List.size_toArray] <;> omega)
  · obtain ⟨its, r', pl, hz⟩ := I.tuple hq
    have hlen := r'.length
    obtain ⟨o, ho, hc, n, hd⟩ := pl
    exact call_list_seq p (.inr rfl) ho hc hd (fun h' c' kp e => fin its r' hz h' c' kp e) (by simp only [List.size_toArray] <;> omega)
def tyV (K : PySem.W.Frag) (T : String) (x : V) (H : Hp) : Prop := match x with
  | .str _ => T = "str"
  | .int _ => T = "int"
  | .ref p => (T = "list" ∧ ∃ xs, SqL K H p xs) ∨ (T = "tuple" ∧ ∃ o, K.lookup p = some o ∧ o.cls = .type "tuple" ∧ o.dict = none) ∨
      (T = "dict" ∧ ((∃ kvs, H p = some (.dK kvs)) ∨ ∃ kvs, H p = some (.dT kvs))) ∨ (T = "set" ∧ ∃ S n, H p = some (.set S n))
  | _ => False
theorem Nq {pins : List (Addr × Obj)} {σ : St} {H : Hp} {s : Shared} {T : String} {x : V} {v : Value} (I : Inv X pins σ H s) (r : RelV x v) (ty : tyV X.K T x H) :
    s.TypeIs v T ∧ ∀ a, v = .ref a → ∃ ob, s.heap.get? a = some ob ∧ ob.dict = none := by
  cases x with
  | str z =>
    obtain ⟨t, rfl⟩ := r
    cases (show T = "str" from ty)
    exact ⟨typeIs_str s z t, fun _ e => nomatch e⟩
  | int i =>
    obtain ⟨t, rfl⟩ := r
    cases (show T = "int" from ty)
    exact ⟨typeIs_int s i t, fun _ e => nomatch e⟩
  | ref p =>
    cases r
    rcases ty with ⟨rfl, xs, hq⟩ | ⟨rfl, o, hk, hc, hd⟩ | ⟨rfl, hk⟩ | ⟨rfl, S, n, hk⟩
    · obtain ⟨its, _, pl, _⟩ := I.list hq
      refine ⟨pl.isList.typeIs, fun a e => ?_⟩
      cases e
      obtain ⟨o, n, e, c, hd, _⟩ := pl
      exact ⟨o, e, hd⟩
    · refine ⟨⟨o, I.kIn p o hk, hc⟩, fun a e => ?_⟩
      cases e
      exact ⟨o, I.kIn _ o hk, hd⟩
    · have z : ∃ o, s.heap.get? p = some o ∧ o.ExactDict := by
        rcases hk with ⟨kvs, hk⟩ | ⟨kvs, hk⟩
        · obtain ⟨_, _, _, _, o, _, _, e, ex, _⟩ := I.hok p _ hk
          exact ⟨o, e, ex⟩
        · obtain ⟨_, _, _, _, o, _, _, e, ex, _⟩ := I.hok p _ hk
          exact ⟨o, e, ex⟩
      obtain ⟨o, e, ex⟩ := z
      refine ⟨⟨o, e, ex.1⟩, fun a e2 => ?_⟩
      cases e2
      exact ⟨o, e, ex.2.1⟩
    · obtain ⟨o, _, _, _, e, ex, _⟩ := I.hok p _ hk
      refine ⟨⟨o, e, ex.1⟩, fun a e2 => ?_⟩
      cases e2
      exact ⟨o, e, ex.2.1⟩
  | _ => exact False.elim ty
def We (K : PySem.W.Frag) (T : String) (r : V → List V → Hp → VK → Prop) (to : TE) : TE := fun σ H Q => to σ H fun x H1 => tyV K T x H1 ∧ r x [] H1 Q
def tBM (K : PySem.W.Frag) (T : String) (r : V → List V → Hp → VK → Prop) (to : TE) (t : TA) : TE := fun σ H Q => to σ H fun x H1 => tyV K T x H1 ∧ t σ H1 fun xs H2 => r x xs H2 Q
variable {o e : Expr} {es : List Expr} {to : TE} {t : TA} {name : Str} {apos cpos : Pos} {T id : String} {r : V → List V → Hp → VK → Prop}
theorem Wf (pa : PlainAttrs T) (slot : Slot T name id) (hty : typeOf (.builtin id) = pure (.type "method_descriptor")) (hm : MtR X id r) (ho : PE X o to)
    (hbase : attributeBase o name X.env (eval o X.env) = eval o X.env := by rfl) (hline : (apos.endLine == cpos.line) = true := by rfl) : PE X (.Call (.Attribute o name apos) [] [] cpos) (We X.K T r to) := by
  intro pins s σ H Q I h
  refine wpAny_Call_method0_late hbase hline (thn (ho pins s σ H _ I h) fun v s1 ⟨x, H1, I1, r1, ty, q1⟩ => ?_)
  obtain ⟨h1, h2⟩ := Nq I1 r1 ty
  exact ⟨T, id, pa, slot, hty, h1, h2, Calls.callWith_builtin rfl (PySem.evalArgs_none (hm pins s1 σ H1 x [] v [] Q I1 r1 .nil q1))⟩
theorem nr (pa : PlainAttrs T) (slot : Slot T name id) (hty : typeOf (.builtin id) = pure (.type "method_descriptor")) (hm : MtR X id r) (ho : PE X o to) (ha : PA X (e :: es) t)
    (hbase : attributeBase o name X.env (eval o X.env) = eval o X.env := by rfl)
    (hfew : ((backTo cpos (starEach (e :: es) X.env)).all (fun x => !x.1) && (backToKw cpos (keywordEach [] X.env)).all (fun x => x.1.isSome)
      && decide ((e :: es).length + ([] : List Keyword).length + (if ([] : List Keyword).isEmpty then 0 else 1) < 30)) = true := by rfl)
    (hline : (apos.endLine == cpos.line) = true := by rfl) (hs : starEach (e :: es) X.env = (false, eval e X.env) :: starEach es X.env := by rfl) (hplain : (backTo cpos (starEach es X.env)).any (·.1) = false := by rfl) :
    PE X (.Call (.Attribute o name apos) (e :: es) [] cpos) (tBM X.K T r to t) := by
  intro pins s σ H Q I h
  refine wpAny_Call_method_late hbase hfew hline rfl (thn (ho pins s σ H _ I h) fun v s1 ⟨x, H1, I1, r1, ty, q1⟩ => ?_)
  obtain ⟨h1, h2⟩ := Nq I1 r1 ty
  refine ⟨T, id, pa, slot, hty, h1, h2, ?_⟩
  have hA := ha cpos pins s1 σ H1 _ I1 q1
  rw [hs] at hA ⊢
  refine Calls.callWith_builtin (by show (false || (backTo cpos (starEach es X.env)).any (·.1)) = false; rw [hplain] <;> rfl) (Calls.evalArgs_plain ?_)
  exact thn hA fun us s2 ⟨vs, H2, I2, r2, q2⟩ => hm pins s2 σ H2 x vs v us Q I2 r1 r2 q2
end
end L2
namespace L2
open PySem PySem.Spec PyProof.Rows
def MtM (X : Cx) (id : String) (r : V → List V → Hp → VK → Prop) : Prop :=
 ∀ (pins : List (Addr × Obj)) (s : Shared) (σ : St) (H : Hp) (x : V) (xs : List V) (v : Value) (us : List Value) (Q : VK), Inv X pins σ H s → RelV x v → Vals xs us → r x xs H Q →
  wpAny (model X.prog X.w) X.A (call (.builtin id) (v :: us)) (EP X pins σ Q) X.xe s
theorem Vals.one : ∀ {x : V} {us : List Value}, Vals [x] us → ∃ u, us = [u] ∧ RelV x u
 | _, _, .cons r .nil => ⟨_, rfl, r⟩
theorem Vals.zero : ∀ {us : List Value}, Vals [] us → us = []
 | _, .nil => rfl
theorem Vals.dropLast {xs : List V} {us : List Value} (h : Vals xs us) : Vals xs.dropLast us.dropLast := by
 induction h with
 | nil => exact .nil
 | cons r t ih =>
  cases t with
  | nil => exact .nil
  | cons q t' => exact .cons r ih
theorem Vals.rep {xs : List V} {us : List Value} (h : Vals xs us) : ∀ k : Nat, Vals (List.replicate k xs).flatten (List.replicate k us).flatten
 | 0 => .nil
 | k + 1 => by
  rw [List.replicate_succ, List.replicate_succ, List.flatten_cons, List.flatten_cons]
  exact Vals.append h (Vals.rep h k)
theorem wg {α : Type} (l : List α) : l.eraseIdx (l.length - 1) = l.dropLast := by
 induction l with
 | nil => rfl
 | cons a r ih =>
  cases r with
  | nil => rfl
  | cons b r =>
   have e : (a :: b :: r).length - 1 = ((b :: r).length - 1) + 1 := by
    have h1 : (a :: b :: r).length = r.length + 2 := rfl
    have h2 : (b :: r).length = r.length + 1 := rfl
    omega
   rw [e, List.eraseIdx_cons_succ, ih]
   all_goals rfl
theorem foldl_rep (its : List Value) : ∀ (k : Nat) (acc : List Value),
    List.foldl (fun x1 x2 => x1 ++ x2) acc.toArray (List.replicate k its.toArray) = (acc ++ (List.replicate k its).flatten).toArray
  | 0, acc => by simp
  | k + 1, acc => by
    have e : acc.toArray ++ its.toArray = (acc ++ its).toArray := by simp
    have e2 : (acc ++ its) ++ (List.replicate k its).flatten = acc ++ (List.replicate (k + 1) its).flatten := by
      rw [List.replicate_succ, List.flatten_cons, List.append_assoc]
    rw [← e2, ← foldl_rep its k (acc ++ its), ← e, List.replicate_succ, List.foldl_cons]
section
variable {X : Cx} {pins : List (Addr × Obj)} {σ : St} {H : Hp} {s : Shared} {l b : Addr} {xs ys zs : List V}
theorem Inv.lset {its its' : List Value} {n : Nat} {f : Array Value → Array Value} {t' : Nat} (I : Inv X pins σ H s) (hH : H l = some (.lst xs))
    (e : s.heap.get? l = some { cls := .type "list", data := .seq its.toArray n }) (hf : f its.toArray = its'.toArray) (hv : Vals ys its') (hz : ys.length ≤ sizeLine) :
    Inv X pins σ (upd H l (.lst ys)) { s with heap := s.heap.update l (Obj.mapSeq f), toks := t' } := by
  have q := PySem.IsL.update e f
  rw [hf] at q
  refine I.write (x := l) (e := l) (by rw [hH]; exact trivial) (.inl rfl) (fun b' u hb hu => (Heap.get?_update_other s.heap (Obj.mapSeq f) (Ne.symm hb)).trans hu) ⟨_, q⟩ ?_
  exact ⟨hz, its', _, hv, q⟩
theorem Inv.lnew {its : List Value} {t' : Nat} (I : Inv X pins σ H s) (hv : Vals ys its) (hz : ys.length ≤ sizeLine) :
    Inv X pins σ (upd H s.heap.objs.size (.lst ys)) { s with heap := s.heap.push { cls := .type "list", data := .seq its.toArray }, toks := t' } :=
  I.laid (fun _ _ q => Heap.get?_push_of_some _ q) (Nat.le_refl _) ⟨hz, its, 0, hv, Heap.get?_push_size _ rfl⟩
theorem Inv.fresh (I : Inv X pins σ H s) : H s.heap.objs.size = none := I.hok.fresh (Nat.le_refl _)
theorem Inv.lstM (I : Inv X pins σ H s) (hH : H l = some (.lst xs)) : xs.length ≤ sizeLine ∧ ∃ (its : List Value) (n : Nat), Vals xs its ∧ xs.length = its.length ∧ s.heap.get? l = some { cls := .type "list", data := .seq its.toArray n } := by
 obtain ⟨z, its, n, r, e⟩ := I.hok l _ hH
 exact ⟨z, its, n, r, r.length, e⟩
theorem Wg {n : Nat} (h : n ≤ sizeLine) : Builtin.List.listTooLong n = false := by
 unfold Builtin.List.listTooLong
 exact decide_eq_false (by omega)
end
section
variable {X : Cx}
def Wh : V → List V → Hp → VK → Prop := fun x vs H Q => ∃ l xs y, x = .ref l ∧ vs = [y] ∧ H l = some (.lst xs) ∧ xs.length < sizeLine ∧ Q .non (upd H l (.lst (xs ++ [y])))
theorem Nr : MtM X "list.append" Wh := by
 intro pins s σ H x vs v us Q I rx rv h
 obtain ⟨l, xs, y, rfl, rfl, hH, hz, q⟩ := h
 cases rx
 obtain ⟨u, rfl, ru⟩ := rv.one
 obtain ⟨z, its, n, r, hl, e⟩ := I.lstM hH
 refine call_meets F.slot_list_append ⟨_, e, rfl⟩ F.entry_list_append (F.args_list_append_2 _ _) (PySem.list_append l its.toArray n u (by rw [List.size_toArray]; omega)) ⟨e, ?_⟩
 refine ⟨.non, _, I.lset (its' := its ++ [u]) hH e (by simp) (r.append (.cons ru .nil)) ?_, rfl, q⟩
 rw [List.length_append, List.length_singleton]
 omega
def Wi : V → List V → Hp → VK → Prop := fun x vs H Q => ∃ l xs y, x = .ref l ∧ vs = [] ∧ H l = some (.lst xs) ∧ xs[xs.length - 1]? = some y ∧ Q y (upd H l (.lst xs.dropLast))
theorem wj : MtM X "list.pop" Wi := by
 intro pins s σ H x vs v us Q I rx rv h
 obtain ⟨l, xs, y, rfl, rfl, hH, hy, q⟩ := h
 cases rx
 have hus := rv.zero
 subst hus
 obtain ⟨z, its, n, r, hl, e⟩ := I.lstM hH
 obtain ⟨u, hu, ru⟩ := r.get hy
 have hy' : its.toArray[its.toArray.size - 1]? = some u := by
  show its.toArray[its.length - 1]? = some u
  rw [← Array.getElem?_toList, ← hl]
  exact hu
 refine call_meets F.slot_list_pop ⟨_, e, rfl⟩ F.entry_list_pop (F.args_list_pop_1 _) (MeetsSeq.list_pop_last l its.toArray n u hy' (by rw [List.size_toArray]; omega)) ⟨e, ?_⟩
 refine ⟨y, _, I.lset (its' := its.dropLast) hH e ?_ r.dropLast ?_, ru, q⟩
 · show its.toArray.eraseIdxIfInBounds (its.toArray.size - 1) = its.dropLast.toArray
   rw [List.size_toArray, List.eraseIdxIfInBounds_toArray, wg]
 · rw [List.length_dropLast]
   omega
def Wj : R2 := fun x y H Q => ∃ l b xs zs, x = .ref l ∧ y = .ref b ∧ H l = some (.lst xs) ∧ H b = some (.lst zs) ∧ xs.length + zs.length ≤ sizeLine ∧ ∀ p, H p = none → Q (.ref p) (upd H p (.lst (xs ++ zs)))
theorem Wk : OpR X (binaryOp .Add) Wj := by
 intro pins s σ H x y v u Q I rx ry h
 obtain ⟨l, b, xs, zs, rfl, rfl, hH, hB, hz, q⟩ := h
 cases rx
 cases ry
 obtain ⟨z, its, n, r, hl, e⟩ := I.lstM hH
 obtain ⟨z2, its2, n2, r2, hl2, e2⟩ := I.lstM hB
 refine PySem.P.add_list e e2 ?_ (by rw [List.size_toArray, List.size_toArray]; omega)
 have ea : its.toArray ++ its2.toArray = (its ++ its2).toArray := by simp
 rw [ea]
 exact ⟨.ref _, _, I.lnew (t' := s.toks) (r.append r2) (by rw [List.length_append]; omega), rfl, q _ I.fresh⟩
def Wl : R2 := fun x y H Q => ∃ l k xs, x = .ref l ∧ y = .int k ∧ H l = some (.lst xs) ∧ -(2 ^ 63) ≤ k ∧ k < 2 ^ 63 ∧ xs.length * k.toNat ≤ sizeLine ∧
 ∀ p, H p = none → Q (.ref p) (upd H p (.lst (List.replicate k.toNat xs).flatten))
theorem len_rep {α : Type} (xs : List α) (k : Nat) : (List.replicate k xs).flatten.length = k * xs.length := by
 induction k with
 | zero => simp
 | succ k ih => rw [List.replicate_succ, List.flatten_cons, List.length_append, ih, Nat.succ_mul, Nat.add_comm]
theorem wm : OpR X (binaryOp .Mult) Wl := by
 intro pins s σ H x y v u Q I rx ry h
 obtain ⟨l, k, xs, rfl, rfl, hH, h1, h2, hz, q⟩ := h
 cases rx
 obtain ⟨t, rfl⟩ := ry
 obtain ⟨z, its, n, r, hl, e⟩ := I.lstM hH
 have hlen : its.toArray.size * k.toNat ≤ sizeLine := by rw [List.size_toArray, ← hl]; exact hz
 have hcap : ¬ its.toArray.size * k.toNat > (2 ^ 63 - 1) / 8 := by
  have : (sizeLine : Nat) ≤ (2 ^ 63 - 1) / 8 := by decide
  omega
 have hfit : ¬ (!Builtin.List.listFitsIndex k) = true := by
  rw [fitsIndex_both h1 h2]
  exact Bool.false_ne_true
 have hlong : ¬ Builtin.List.listTooLong (its.toArray.size * k.toNat) = true := by
  rw [Wg hlen]
  exact Bool.false_ne_true
 have hnew : List.foldl (fun x1 x2 => x1 ++ x2) #[] (List.replicate (if its.toArray.isEmpty = true then 0 else k.toNat) its.toArray) = (List.replicate k.toNat its).flatten.toArray := by
  have f0 : ∀ m : Nat, List.foldl (fun x1 x2 => x1 ++ x2) #[] (List.replicate m its.toArray) = (List.replicate m its).flatten.toArray := fun m => by
   have := foldl_rep its m []
   rw [List.nil_append] at this
   exact this
  rw [f0]
  cases its with
  | nil => simp
  | cons a r' => rw [if_neg (by simp)]
 refine wpAny_binaryOp_repeat_ref (T := "list") (U := "int") (by decide) ⟨_, e, rfl⟩ (fun s' => typeIs_int s' k t) noFill_list_mul F.fills_int_mul F.slot_int_rmul repeat_list F.slot_int_index.lookup
  (call_meets F.slot_int_rmul (typeIs_int s k t) F.entry_int_rmul (F.args_int_rmul_2 _ _) (int___rmul___int_list k t l its.toArray n)
   ⟨e, rfl, ⟨_, e, rfl⟩, call_meets F.slot_list_mul ⟨_, e, rfl⟩ F.entry_list_mul (F.args_list_mul_2 _ _) (AutoListH.list___mul___list_int_3 l its.toArray n k t hfit hcap hlong) ⟨e, ?_⟩⟩)
 rw [hnew]
 exact ⟨.ref _, _, I.lnew (t' := s.toks) (r.rep k.toNat) (by rw [len_rep, Nat.mul_comm]; exact hz), rfl, q _ I.fresh⟩
end
section
variable {prog : Program} {w : World} {A : Around} {E : Value → Shared → Prop} {s : Shared}
end
section
variable {X : Cx}
end
end L2
namespace L2
open PySem PySem.Spec PyProof.Rows
section
variable {κ : Type} [DecidableEq κ]
def bw (kvs : List (κ × V)) (k : κ) : Option V := (kvs.find? fun kv => decide (kv.1 = k)).map (·.2)
def putK (kvs : List (κ × V)) (k : κ) (v : V) : List (κ × V) :=
 if (kvs.any fun kv => decide (kv.1 = k)) = true then kvs.map (fun kv => if kv.1 = k then (kv.1, v) else kv) else kvs ++ [(k, v)]
def Nt (kvs : List (κ × V)) (k : κ) : List (κ × V) := kvs.filter fun kv => decide (kv.1 ≠ k)
theorem nu {p : κ × V} {r : List (κ × V)} {k : κ} (e : p.1 = k) : bw (p :: r) k = some p.2 := by simp [bw, List.find?_cons, e]
theorem Nu {p : κ × V} {r : List (κ × V)} {k : κ} (e : ¬ p.1 = k) : bw (p :: r) k = bw r k := by simp [bw, List.find?_cons, e]
theorem Nv (kvs : List (κ × V)) (k : κ) (v : V) : (putK kvs k v).length ≤ kvs.length + 1 := by
 unfold putK
 split
 · rw [List.length_map]; omega
 · rw [List.length_append, List.length_cons, List.length_nil]; omega
theorem Bv.isSome_eq {o : Option V} {u : Option Value} (r : Bv o u) : o.isSome = u.isSome := by
 cases o with
 | none => cases u with
  | none => rfl
  | some _ => exact (show False from r).elim
 | some _ => cases u with
  | none => exact (show False from r).elim
  | some _ => rfl
theorem Bv.getD {o : Option V} {u : Option Value} {d : V} {d' : Value} (r : Bv o u) (rd : RelV d d') : RelV (o.getD d) (u.getD d') := by
 cases o with
 | none => cases u with
  | none => exact rd
  | some _ => exact (show False from r).elim
 | some _ => cases u with
  | none => exact (show False from r).elim
  | some _ => exact r
theorem KV.val {kvs : List (κ × V)} {vs : List (κ × Value)} (r : KV kvs vs) (k : κ) : Bv (bw kvs k) (valueAt vs k) := by
 unfold KV at r
 induction r with
 | nil => exact True.intro
 | @cons p q ps qs h t ih =>
  obtain ⟨h1, h2⟩ := h
  by_cases e : p.1 = k
  · have e' : q.1 = k := h1.symm.trans e
    have b : valueAt (q :: qs) k = some q.2 := by simp [valueAt, List.find?_cons, e']
    rw [nu e, b]; exact h2
  · have e' : ¬ q.1 = k := fun z => e (h1.trans z)
    have b : valueAt (q :: qs) k = valueAt qs k := by simp [valueAt, List.find?_cons, e']
    rw [Nu e, b]; exact ih
theorem KV.any {kvs : List (κ × V)} {vs : List (κ × Value)} (r : KV kvs vs) (k : κ) : (kvs.any fun kv => decide (kv.1 = k)) = vs.any fun kv => decide (kv.1 = k) := by
 unfold KV at r
 induction r with
 | nil => rfl
 | cons h t ih => rw [List.any_cons, List.any_cons, ih, h.1]
theorem KV.repl {kvs : List (κ × V)} {vs : List (κ × Value)} (r : KV kvs vs) (k : κ) {y : V} {u : Value} (ry : RelV y u) :
    KV (kvs.map fun kv => if kv.1 = k then (kv.1, y) else kv) (vs.map fun kv => if kv.1 = k then (kv.1, u) else kv) := by
  unfold KV at r ⊢
  induction r with
  | nil => exact .nil
  | @cons p q ps qs h t ih =>
    rw [List.map_cons, List.map_cons]
    refine .cons ?_ ih
    obtain ⟨h1, h2⟩ := h
    by_cases e : p.1 = k
    · rw [if_pos e, if_pos (h1.symm.trans e)]; exact ⟨h1, ry⟩
    · rw [if_neg e, if_neg (fun z => e (h1.trans z))]; exact ⟨h1, h2⟩
theorem KV.put {kvs : List (κ × V)} {vs : List (κ × Value)} (r : KV kvs vs) (k : κ) {y : V} {u : Value} (ry : RelV y u) : KV (putK kvs k y) (stored vs k u) := by
 unfold putK stored
 rw [r.any k]
 by_cases e : (vs.any fun kv => decide (kv.1 = k)) = true
 · rw [if_pos e, if_pos e]; exact r.repl k ry
 · rw [if_neg e, if_neg e]; exact Paired.snoc r ⟨rfl, ry⟩
theorem KV.drop {kvs : List (κ × V)} {vs : List (κ × Value)} (r : KV kvs vs) (k : κ) : KV (Nt kvs k) (without vs k) := by
 unfold KV at r ⊢
 unfold Nt without
 induction r with
 | nil => exact .nil
 | @cons p q ps qs h t ih =>
  obtain ⟨h1, h2⟩ := h
  rw [List.filter_cons, List.filter_cons]
  by_cases e : p.1 = k
  · have a : ¬ decide (p.1 ≠ k) = true := by simp [e]
    have b : ¬ decide (q.1 ≠ k) = true := by simp [h1.symm.trans e]
    rw [if_neg a, if_neg b]; exact ih
  · have e' : ¬ q.1 = k := fun z => e (h1.trans z)
    have a : decide (p.1 ≠ k) = true := by simp [e]
    have b : decide (q.1 ≠ k) = true := by simp [e']
    rw [if_pos a, if_pos b]; exact .cons ⟨h1, h2⟩ ih
theorem KV.length {kvs : List (κ × V)} {vs : List (κ × Value)} (r : KV kvs vs) : kvs.length = vs.length := Paired.length r
end
theorem fm {P : Program} {w : World} {k : Key} {u : Value} (r : RelV (kV k) u) : (Ca P w).is k u = true := by
 cases k with
 | inl i => obtain ⟨t, e⟩ := (show ∃ t, u = Value.int i t from r); subst e; exact tf P w i t
 | inr x => obtain ⟨t, e⟩ := (show ∃ t, u = Value.str x t from r); subst e; exact Tf P w x t
theorem Nw {P : Program} {w : World} : ∀ {ks : List Key} {us : List Value}, Vals (ks.map kV) us → ItemsAre (Ca P w) ks us
 | [], _, r => by rw [List.map_nil] at r; cases r; exact .nil
 | k :: ks, _, r => by
  rw [List.map_cons] at r
  cases r with
  | cons h t => exact .cons (fm h) (Nw t)
abbrev KT (H : Hp) : List (List Key × V) → List (List Key × Addr × Value) → Prop := Paired fun p q => p.1 = q.1 ∧ H q.2.1 = some (.tup (p.1.map kV)) ∧ RelV p.2 q.2.2
theorem KT.val {H : Hp} {kvs : List (List Key × V)} {xs : List (List Key × Addr × Value)} (r : KT H kvs xs) (k : List Key) : Bv (bw kvs k) ((atKey xs k).map (·.2)) := by
 induction r with
 | nil => exact True.intro
 | @cons p q ps qs h t ih =>
  obtain ⟨h1, _, h2⟩ := h
  by_cases e : p.1 = k
  · have e' : q.1 = k := h1.symm.trans e
    have b : atKey (q :: qs) k = some q.2 := by simp [atKey, List.find?_cons, e']
    rw [nu e, b]; exact h2
  · have e' : ¬ q.1 = k := fun z => e (h1.trans z)
    have b : atKey (q :: qs) k = atKey qs k := by simp [atKey, List.find?_cons, e']
    rw [Nu e, b]; exact ih
section
variable {P : Program} {w : World} {H : Hp} {h : Heap} {a : Addr}
theorem Nx {u : HO} (ok : HOk P w H h) (e : Rd H a u) : bg P w H h a u := e.ok ok
theorem Fm {kvs : List (Key × V)} (ok : HOk P w H h) (e : Rd H a (.dK kvs)) : kvs.length ≤ sizeLine ∧ (a == sysModules) = false ∧ ∃ vs, KV kvs vs ∧ h.DictOf (Ca P w) a vs :=
 show bg P w H h a (.dK kvs) from Nx ok e
theorem kq {kvs : List (Key × V)} (ok : HOk P w H h) (e : H a = some (.dK kvs)) : kvs.length ≤ sizeLine ∧ (a == sysModules) = false ∧ ∃ vs, KV kvs vs ∧ h.DictOf (Ca P w) a vs := Fm ok (.inl e)
theorem Hn {ks : List Key} (ok : HOk P w H h) (e : H a = some (.tup (ks.map kV))) : (tupleKind (Ca P w)).is h ks a := by
 obtain ⟨_, its, r, o, h1, h2, n, h3⟩ := (show bg P w H h a (.tup (ks.map kV)) from ok a _ e)
 exact ⟨o, its.toArray, n, h1, h2, h3, by simpa using Nw r⟩
theorem Gr {kvs : List (List Key × V)} (ok : HOk P w H h) (e : Rd H a (.dT kvs)) : kvs.length ≤ sizeLine ∧ (a == sysModules) = false ∧
    ∃ xs, KT H kvs xs ∧ h.DictOfH (tupleKind (Ca P w)) a xs := by
  obtain ⟨z, y, xs, r, o, es, ep, h1, h2, h3, h4, h5⟩ := (show bg P w H h a (.dT kvs) from Nx ok e)
  refine ⟨z, y, xs, r, o, es, ep, h1, h2, h3, h4, fun x hx => ?_, h5⟩
  have all : ∀ {l : List (List Key × V)} {m : List (List Key × Addr × Value)}, KT H l m → ∀ x ∈ m, (tupleKind (Ca P w)).is h x.1 x.2.1 := by
    intro l m q
    induction q with
    | nil => intro x hx; exact nomatch hx
    | @cons p q ps qs hq t ih =>
      intro x hx
      rcases List.mem_cons.mp hx with e | hx
      · subst e
        exact Hn ok (by rw [← hq.1]; exact hq.2.1)
      · exact ih x hx
  exact all r x hx
end
def Ck (H : Hp) (a : Addr) (y : V) (r : Option V) : Prop :=
 (∃ kvs k, Rd H a (.dK kvs) ∧ y = kV k ∧ r = bw kvs k) ∨ ∃ kvs k b, Rd H a (.dT kvs) ∧ y = .ref b ∧ H b = some (.tup (k.map kV)) ∧ r = bw kvs k
def Iu (H : Hp) (a : Addr) (y v : V) (H' : Hp) : Prop :=
 (∃ kvs k, H a = some (.dK kvs) ∧ y = kV k ∧ kvs.length < sizeLine ∧ H' = upd H a (.dK (putK kvs k v))) ∨
 ∃ kvs k b, H a = some (.dT kvs) ∧ y = .ref b ∧ H b = some (.tup (k.map kV)) ∧ kvs.length < sizeLine ∧ H' = upd H a (.dT (putK kvs k v))
theorem Ck.k {H : Hp} {a : Addr} {kvs : List (Key × V)} {k : Key} (e : H a = some (.dK kvs)) : Ck H a (kV k) (bw kvs k) := .inl ⟨kvs, k, .inl e, rfl, rfl⟩
theorem Ck.t {H : Hp} {a b : Addr} {kvs : List (List Key × V)} {k : List Key} (e : H a = some (.dT kvs)) (eb : H b = some (.tup (k.map kV))) : Ck H a (.ref b) (bw kvs k) := .inr ⟨kvs, k, b, .inl e, rfl, eb, rfl⟩
theorem Iu.k {H : Hp} {a : Addr} {kvs : List (Key × V)} {k : Key} {v : V} (e : H a = some (.dK kvs)) (hl : kvs.length < sizeLine) : Iu H a (kV k) v (upd H a (.dK (putK kvs k v))) := .inl ⟨kvs, k, e, rfl, hl, rfl⟩
theorem Iu.t {H : Hp} {a b : Addr} {kvs : List (List Key × V)} {k : List Key} {v : V} (e : H a = some (.dT kvs)) (eb : H b = some (.tup (k.map kV))) (hl : kvs.length < sizeLine) :
    Iu H a (.ref b) v (upd H a (.dT (putK kvs k v))) := .inr ⟨kvs, k, b, e, rfl, eb, hl, rfl⟩
section
variable {X : Cx} {pins : List (Addr × Obj)} {σ : St} {H : Hp} {s : Shared} {a : Addr} {y v : V} {u r : Value} {o : Option V} {A : Around} {E : Value → Shared → Prop}
theorem Inv.big (I : Inv X pins σ H s) : sysModules < s.heap.objs.size := by
 have h : mainGlobals < s.heap.objs.size := (I.mod.glob.keeps I.bk).lt
 exact Nat.lt_trans (by decide) h
theorem Wm {Q : Value → Shared → Prop} (hu : A.units + 1 < cLine) (I : Inv X pins σ H s) (g : Ck H a y (some v)) (ry : RelV y u) (h : ∀ w' s', Inv X pins σ H s' → RelV v w' → Q w' s') :
    wpAny (model X.prog X.w) A (getItem (.ref a) u) Q E s := by
  rcases g with ⟨kvs, k, e, ey, l⟩ | ⟨kvs, k, b, e, ey, eb, l⟩
  · subst ey
    obtain ⟨z, hd, vs, rel, dd⟩ := Fm I.hok e
    obtain ⟨w', hw, rw'⟩ := Bv.some_of (v := v) (o := valueAt vs k) (by rw [l]; exact rel.val k)
    exact wpAny_getItem_of (fm ry) dd.mapOf hw (h w' _ (I.tok _) rw')
  · subst ey
    cases (show u = Value.ref b from ry)
    obtain ⟨z, hd, xs, rel, dd⟩ := Gr I.hok e
    obtain ⟨w', hw, rw'⟩ := Bv.some_of (v := v) (o := (atKey xs k).map (·.2)) (by rw [l]; exact rel.val k)
    obtain ⟨p, hp, hp2⟩ := Option.map_eq_some_iff.mp hw
    refine wpAny_getItem_heap (tupleKind_room_in1 hu) (Hn I.hok eb) dd hp ?_
    rw [hp2]
    exact h w' _ (I.tok _) rw'
theorem Wn {Q : Value → Shared → Prop} (hu : A.units + 1 < cLine) (I : Inv X pins σ H s) (g : Ck H a y o) (ry : RelV y u) (h : ∀ s', Inv X pins σ H s' → Q (.bool o.isSome) s') :
    wpAny (model X.prog X.w) A (compareOp .In u (.ref a)) Q E s := by
  rcases g with ⟨kvs, k, e, ey, l⟩ | ⟨kvs, k, b, e, ey, eb, l⟩
  · subst ey
    obtain ⟨z, hd, vs, rel, dd⟩ := Fm I.hok e
    refine wpAny_in_of (fm ry) hd dd.mapOf ?_
    rw [← (rel.val k).isSome_eq, ← l]
    exact h _ (I.tok _)
  · subst ey
    cases (show u = Value.ref b from ry)
    obtain ⟨z, hd, xs, rel, dd⟩ := Gr I.hok e
    refine wpAny_in_heap (tupleKind_room_in1 hu) (Hn I.hok eb) hd dd ?_
    have q := (rel.val k).isSome_eq
    rw [Option.isSome_map] at q
    rw [← q, ← l]
    exact h _ (I.tok _)
theorem wo {Q : Value → Shared → Prop} (hu : A.units + 1 < cLine) (I : Inv X pins σ H s) (g : Ck H a y o) (ry : RelV y u) (h : ∀ s', Inv X pins σ H s' → Q (.bool (!o.isSome)) s') :
    wpAny (model X.prog X.w) A (compareOp .NotIn u (.ref a)) Q E s := by
  rcases g with ⟨kvs, k, e, ey, l⟩ | ⟨kvs, k, b, e, ey, eb, l⟩
  · subst ey
    obtain ⟨z, hd, vs, rel, dd⟩ := Fm I.hok e
    refine wpAny_notIn_of (fm ry) hd dd.mapOf ?_
    rw [← (rel.val k).isSome_eq, ← l]
    exact h _ (I.tok _)
  · subst ey
    cases (show u = Value.ref b from ry)
    obtain ⟨z, hd, xs, rel, dd⟩ := Gr I.hok e
    refine wpAny_notIn_heap (tupleKind_room_in1 hu) (Hn I.hok eb) hd dd ?_
    have q := (rel.val k).isSome_eq
    rw [Option.isSome_map] at q
    rw [← q, ← l]
    exact h _ (I.tok _)
theorem ny {h' : Heap} {t' : Nat} {ob : HO} (I : Inv X pins σ H s) (mu : Mut (H a)) (hs : Heap.SameBut a s.heap h') (he : ∃ q, h'.get? a = some q) (new : bg X.prog X.w (upd H a ob) h' a ob) :
    Inv X pins σ (upd H a ob) { s with heap := h', toks := t' } :=
  I.write (x := a) (e := a) mu (.inl rfl) (fun b q hb z => (hs.2 b hb).trans z) he new
theorem Ny {P : Program} {w : World} {H' : Hp} {h' : Heap} {kvs : List (Key × V)} {vs : List (Key × Value)} (z : kvs.length ≤ sizeLine) (hd : (a == sysModules) = false) (rel : KV kvs vs) (dd : h'.DictOf (Ca P w) a vs) :
    bg P w H' h' a (.dK kvs) := ⟨z, hd, vs, rel, dd⟩
end
section
variable {X : Cx} {pins : List (Addr × Obj)} {σ : St} {H : Hp} {s : Shared} {a : Addr} {kvs : List (Key × V)} {k : Key} {u : Value} {A : Around} {E : Value → Shared → Prop}
end
theorem Wo {X : Cx} {pins : List (Addr × Obj)} {σ : St} {H : Hp} {s : Shared} {a : Addr} {y : V} {o : Option V} (I : Inv X pins σ H s) (g : Ck H a y o) : s.TypeIs (.ref a) "dict" := by
 rcases g with ⟨kvs, k, e, _, _⟩ | ⟨kvs, k, b, e, _, _, _⟩
 · obtain ⟨_, _, vs, _, dd⟩ := Fm I.hok e
   exact dd.typeIs
 · obtain ⟨_, _, xs, _, dd⟩ := Gr I.hok e
   exact dd.typeIs
section
variable {X : Cx} {o i e value : Expr} {pos pos' tpos : Pos} {td ty tv : TE}
end
theorem wq {P : Program} {w : World} {H : Hp} (h : Heap) (hb : sysModules < h.objs.size) : bg P w H (h.push { cls := .type "dict", data := .dict #[] }) h.objs.size (.dK []) :=
 ⟨Nat.zero_le _, beq_eq_false_iff_ne.mpr (Ne.symm (Nat.ne_of_lt hb)), [], .nil, Heap.DictOf.new h⟩
section
variable {X : Cx} {pos : Pos}
end
def Gs (kvs more : List (Key × V)) : List (Key × V) := more.foldl (fun acc kv => putK acc kv.1 kv.2) kvs
theorem KV.merge : ∀ {more : List (Key × V)} {rs : List (Key × Value)} {kvs : List (Key × V)} {vs : List (Key × Value)}, KV more rs → KV kvs vs → KV (Gs kvs more) (merged vs rs) := by
 intro more rs kvs vs r
 unfold KV at r
 induction r generalizing kvs vs with
 | nil => intro q; exact q
 | @cons p q ps qs h t ih =>
  intro r0
  have e : KV (putK kvs p.1 p.2) (stored vs q.1 q.2) := by
   have := r0.put p.1 h.2
   rw [← h.1]; exact this
  exact ih e
theorem nz : ∀ (more kvs : List (Key × V)), (Gs kvs more).length ≤ kvs.length + more.length
 | [], kvs => by show kvs.length ≤ kvs.length + 0; omega
 | p :: r, kvs => by
  have h1 := nz r (putK kvs p.1 p.2)
  have h2 := Nv kvs p.1 p.2
  show (Gs (putK kvs p.1 p.2) r).length ≤ _
  rw [List.length_cons]; omega
structure M1 (X : Cx) (o : Expr) (m : Str) (apos : Pos) (e : Expr) (cpos : Pos) : Prop where
 base : attributeBase o m X.env (eval o X.env) = eval o X.env
 few : ((backTo cpos (starEach [e] X.env)).all (fun x => !x.1) && (backToKw cpos (keywordEach [] X.env)).all (fun x => x.1.isSome)
  && decide (([e] : List Expr).length + ([] : List Keyword).length + (if ([] : List Keyword).isEmpty then 0 else 1) < 30)) = true
 line : (apos.endLine == cpos.line) = true
 trees : backTo cpos (starEach [e] X.env) = [(false, eval e X.env)]
def IsD (H : Hp) (a : Addr) : Prop := (∃ kvs, Rd H a (.dK kvs)) ∨ ∃ kvs, Rd H a (.dT kvs)
theorem Wq {X : Cx} {pins : List (Addr × Obj)} {σ : St} {H : Hp} {s : Shared} {a : Addr} (I : Inv X pins σ H s) (d : IsD H a) :
    s.TypeIs (.ref a) "dict" ∧ (∀ b, Value.ref a = .ref b → ∃ ob, s.heap.get? b = some ob ∧ ob.dict = none) ∧ (a == sysModules) = false := by
  rcases d with ⟨kvs, e⟩ | ⟨kvs, e⟩
  · obtain ⟨_, hd, vs, _, dd⟩ := Fm I.hok e
    refine ⟨dd.typeIs, fun b q => ?_, hd⟩
    cases q
    obtain ⟨ob, _, _, h1, h2, _⟩ := dd
    exact ⟨ob, h1, h2.2.1⟩
  · obtain ⟨_, hd, xs, _, dd⟩ := Gr I.hok e
    refine ⟨dd.typeIs, fun b q => ?_, hd⟩
    cases q
    obtain ⟨ob, _, _, h1, h2, _⟩ := dd
    exact ⟨ob, h1, h2.2.1⟩
section
variable {X : Cx} {pins : List (Addr × Obj)} {σ : St} {H : Hp} {s : Shared} {a : Addr} {y d : V} {u r : Value} {o : Option V} {A : Around} {E : Value → Shared → Prop}
theorem Ws {Q : Value → Shared → Prop} (hu : A.units + 1 < cLine) (I : Inv X pins σ H s) (g : Ck H a y o) (ry : RelV y u) (h : ∀ w' s', Inv X pins σ H s' → RelV (o.getD .non) w' → Q w' s') :
    wpAny (model X.prog X.w) A (call (.builtin "dict.get") [.ref a, u]) Q E s := by
  rcases g with ⟨kvs, k, e, ey, l⟩ | ⟨kvs, k, b, e, ey, eb, l⟩
  · subst ey
    obtain ⟨z, hd, vs, rel, dd⟩ := Fm I.hok e
    refine call_meetsIn PySem.F.slot_dict_get dd.typeIs PySem.F.entry_dict_get (PySem.F.args_dict_get_2 _ _) (meets_dict_get (Ca X.prog X.w) a (fm ry) hd) ⟨_, dd.mapOf, h _ _ (I.tok _) ?_⟩
    rw [l]
    exact (rel.val k).getD rfl
  · subst ey
    cases (show u = Value.ref b from ry)
    obtain ⟨z, hd, xs, rel, dd⟩ := Gr I.hok e
    refine call_meetsIn PySem.F.slot_dict_get dd.typeIs PySem.F.entry_dict_get (PySem.F.args_dict_get_2 _ _) (meetsH_dict_get (tupleKind (Ca X.prog X.w)) a b hd) ⟨tupleKind_room_in1 hu, k, xs, Hn I.hok eb, dd, h _ _ (I.tok _) ?_⟩
    rw [l]
    exact (rel.val k).getD rfl
end
def wt (td ty : TE) : TE := fun σ H Q => td σ H fun x H1 => ∃ a, x = .ref a ∧ IsD H1 a ∧ ty σ H1 fun y H2 => ∃ o, Ck H2 a y o ∧ Q (o.getD .non) H2
section
variable {X : Cx} {o e f : Expr} {apos cpos : Pos} {td ty tx : TE}
theorem Wt (hu : X.A.units + 1 < cLine) (ho : PE X o td) (he : PE X e ty) (m : M1 X o "get" apos e cpos) : PE X (.Call (.Attribute o "get" apos) [e] [] cpos) (wt td ty) := by
 intro pins s σ H Q I h
 refine wpAny_Call_method m.base m.few m.line PySem.F.plainAttrs_dict PySem.F.slot_dict_get PySem.F.type_dict_get (thn (ho pins s σ H _ I h) fun u s1 ⟨x, H1, I1, rx, a, ex, d, q1⟩ => ?_)
 subst ex
 obtain rfl : u = Value.ref a := rx
 obtain ⟨t1, t2, _⟩ := Wq I1 d
 refine ⟨t1, t2, ?_⟩
 rw [m.trees]
 refine Calls.callWith_builtin rfl (Calls.evalArgs_plain (Calls.spliced_cons (thn (he pins s1 σ H1 _ I1 q1) fun iv s2 ⟨y, H2, I2, ry, ov, g, q2⟩ => Calls.spliced_nil ?_)))
 exact Ws hu I2 g ry fun w' s3 I3 rw' => ⟨_, H2, I3, rw', q2⟩
end
section
variable {X : Cx} {pins : List (Addr × Obj)} {σ : St} {H : Hp} {s : Shared} {a : Addr} {kvs : List (Key × V)} {A : Around} {E : Value → Shared → Prop}
end
section
variable {X : Cx} {pins : List (Addr × Obj)} {σ : St} {H : Hp} {s : Shared} {a : Addr} {y : V} {u : Value} {A : Around} {E : Value → Shared → Prop}
end
end L2
namespace Att
open PySem PySem.W PySem.Calls PyProof.Rows
theorem wu {P : Params} {h : Heap} : ∀ (ns : List Int) (vs : List Value), WellAll P h vs (ns.map WData.int) → IntsAre vs ns := by
 intro ns
 induction ns with
 | nil =>
  intro vs w
  rw [List.map_nil] at w
  cases w
  exact .nil
 | cons n ns ih =>
  intro vs w
  rw [List.map_cons] at w
  cases w with
  | cons a b =>
   cases a
   exact .cons _ _ (ih _ b)
theorem Wu {l : OpenLaw} {n : Nat} (hn : l.most = some n) {P : Params} {h : Heap} {args : List WData} {vals : List Value}
    (hpre : l.row.toRowW.claim.pre args = true) (hwl : WellAll P h vals args) :
    ∃ a vs ns, vals = [Value.ref a] ∧ args = [WData.list (ns.map WData.int)] ∧ h.get? a = some { cls := .type "list", data := .seq vs.toArray } ∧ IntsAre vs ns ∧ ns.length ≤ n := by
  have hsh : WShape.hasAll [] args [.list .int] = true := (pre_splitW hpre).1
  have hc : l.pre.holds [] { args := args } = true := (pre_splitW hpre).2
  obtain ⟨d, r, rfl, h1, h2⟩ := hasAllW_cons hsh
  obtain rfl := hasAllW_nil h2
  obtain ⟨xs, rfl, h3⟩ := hasW_list h1
  obtain ⟨ns, rfl⟩ := items_int h3
  have hlen : ns.length ≤ n := by
    unfold OpenLaw.pre at hc
    have h4 : (WTm.not (.lt (.lit (.int (n : Int))) (.len (.arg 0)))).holds [] { args := [.list (ns.map .int)] } = true := by
      have h4 := (holds_andW hc).1
      rw [hn] at h4
      exact h4
    have h5 := condW_of h4 (w_not (w_lt w_lit (w_len_list (w_arg rfl))))
    rw [List.length_map] at h5
    refine Nat.le_of_not_lt fun q => ?_
    have q' : (n : Int) < ((ns.length : Nat) : Int) := by omega
    first
      | (rw [decide_eq_true q'] at h5; exact absurd h5 (by decide))
      | (simp at h5; omega)
  cases hwl with
  | cons w1 w2 =>
    cases w2
    cases w1 with
    | list ho hall => exact ⟨_, _, ns, rfl, rfl, ho, wu ns _ hall, hlen⟩
theorem Wv (l : OpenLaw) (args : List WData) : l.row.toRowW.claim.post args (.bool true) args = true :=
 postW_of (r := l.row.toRowW) (X := (true == true))
  (show WShape.has [] (.bool true) .bool = true by first | rfl | decide | simp [WShape.has, WShape.arms, WShape.armsAll])
  (show (WTm.eq .res (.lit (.bool true))).value [] { args := args, res := some (.bool true), after := args } = some (.bool (true == true)) from w_eq_bool (w_res rfl) w_lit) rfl
theorem Ww {l : OpenLaw} {n : Nat} {q : Program} {loose : List Str} {XP : (Str → Option Value) → Heap → Prop} {YP : World → Heap → Prop} {d : DefRec}
    (hn : l.most = some n) (hdf : d.params.defaults = [])
    (call : ∀ (w : World) (s₀ s₁ : Shared) (mg mb : Str → Option Value) (fa : Addr) (o : Obj) (pm cd doc : Value) (a : Addr) (vs : List Value) (ns : List Int),
      Ground q loose [] XP w s₀ mg mb s₁.heap → YP w s₁.heap →
      s₁.heap.get? fa = some o → o.data = .func (docDef d.name d.params d.body d.scope pm cd doc) → s₁.heap.CodeRec cd d.name → mg d.name = some (.ref fa) →
      s₁.heap.get? a = some { cls := .type "list", data := .seq vs.toArray } → IntsAre vs ns → ns.length ≤ n → s₁.gens = #[] →
      codeAny (model l.prog w) callerA (.call (.ref fa) ⟨[.ref a], []⟩) (fun r s' => r = .ok (.ret (.bool true)) ∧ OldK s₁.heap s'.heap ∧ s'.os = s₁.os ∧ AllBare s'.gens) s₁) :
    WalkO q loose XP YP l.row.toRowW d [] (fun f vs => PySem.call f vs) := by
  intro w s₀ s₁ mg mb G Y fa o pm cd doc dV kV ho hd hcd hD hmg hg args vals as hpre hlay hrd hwl hlo
  obtain rfl : dV = .none := Dflts.none hD hdf
  obtain rfl : kV = .none := Dflts.noKw hD
  obtain ⟨a, vs, ns, rfl, rfl, hobj, hints, hlen⟩ := Wu hn hpre hwl
  refine enter_call (codeAny_mono (call w s₀ s₁ mg mb fa o pm cd doc a vs ns G Y ho (fd_plain hd) hcd hmg hobj hints hlen hg) fun r s' hq => ?_)
  obtain ⟨rfl, h2, h3, h4⟩ := hq
  exact ⟨.inl ⟨.bool true, .bool true, [], rfl, fun _ => rfl, .bool true, Wv l _, fun _ => ⟨List.Pairwise.nil, fun _ hm => (nomatch hm)⟩⟩, h2, h3, h4⟩
section
variable {prog : Program} {w : World} {A : Around} {E : Value → Shared → Prop} {s : Shared} {K : Frag}
end
end Att
namespace L2
open PySem PySem.Spec PyProof.Rows
theorem Nz : ∀ {vs : List Value} {ns : List Int}, IntsAre vs ns → Vals (ns.map V.int) vs
 | _, _, .nil => .nil
 | _, _, .cons n t h => .cons ⟨t, rfl⟩ (Nz h)
def Iv (H : Hp) : Prop := ∀ b, H b = none ∨ ∃ o xs, H b = some (.frz o (.lst xs))
theorem wx {P : Program} {w : World} {K : PySem.W.Frag} {mg mb : Str → Option Value} {CX : CXT} {k : Nat} {fa a : Addr} {fd : FuncData} {x : Str} {sp : Sp} {s₁ : Shared} {vs : List Value} {ns : List Int}
    (KX : K.In s₁.heap) (hns : s₁.heap.Ns mainGlobals mg) (hb : s₁.heap.Ns builtinsNs mb) (hbb : ∀ x : Str, x ≠ "__name__" → mb x = bootBuiltins x) (hlim : s₁.heap.NoLimit) (hg : s₁.gens = #[])
    (ha : s₁.heap.get? a = some { cls := .type "list", data := .seq vs.toArray }) (hi : IntsAre vs ns) (hl : ns.length ≤ sizeLine) (hr : Room k callerA)
    (F : ∀ base : Heap, K.In base → base.Ns mainGlobals mg → FnOk P w K mg base CX k fa fd [x] sp) (hbind : ∀ (s : Shared) (u : Value), BindsTo s fd ⟨[u], []⟩ [(x, u)])
    (hsp : ∀ H : Hp, Iv H → SqL K H a (ns.map V.int) → sp [.ref a] H (fun v _ => v = .bl true) fun _ _ _ => False)
    (hCX : ∀ H e s', CX [] H s₁ (fun _ _ _ => False) e s' → False) :
    codeAny (model P w) callerA (.call (.ref fa) ⟨[.ref a], []⟩) (fun r s' => r = .ok (.ret (.bool true)) ∧ OldK s₁.heap s'.heap ∧ s'.os = s₁.os ∧ AllBare s'.gens) s₁ := by
  have rv := Nz hi
  have lenV := hi.length
  have core : ∀ H : Hp, Iv H → SqL K H a (ns.map V.int) → HOk P w H s₁.heap → (∀ b, H b ≠ none → b = a) → (H a ≠ none → K.lookup a = none) →
      codeAny (model P w) callerA (.call (.ref fa) ⟨[.ref a], []⟩) (fun r s' => r = .ok (.ret (.bool true)) ∧ OldK s₁.heap s'.heap ∧ s'.os = s₁.os ∧ AllBare s'.gens) s₁ := by
    intro H hO hS hok hA hK
    have base_of : ∀ {b : Addr} {o : Obj}, s₁.heap.get? b = some o → H b = none → (Dv s₁.heap H).get? b = some o := fun e n => Th e n
    have noA : ∀ {b : Addr} {o : Obj} {es : Array DictEntry} {ep : Nat}, s₁.heap.get? b = some o → o.data = .dict es ep → H b = none := fun {b o es ep} e d => by
      cases q : H b with
      | none => rfl
      | some u =>
        have e' : b = a := hA b (by rw [q]; simp)
        subst e'
        rw [ha] at e; cases e
        have d' : Data.seq vs.toArray _ = Data.dict es ep := d
        cases d'
    have nsK : ∀ {b : Addr} {m : Str → Option Value}, s₁.heap.Ns b m → (Dv s₁.heap H).Ns b m := fun {b m} ⟨o, es, ep, e, d, r⟩ => ⟨o, es, ep, base_of e (noA e d), d, r⟩
    have hKb : K.In (Dv s₁.heap H) := fun b o e => base_of (KX b o e) (by
      cases q : H b with
      | none => rfl
      | some u =>
        have e' : b = a := hA b (by rw [q]; simp)
        subst e'
        rw [hK (by rw [q]; simp)] at e; cases e)
    have hM : Mod K mg (Dv s₁.heap H) := ⟨hKb, nsK hns, ⟨mb, nsK hb, hbb⟩, let ⟨mc, h1, h2⟩ := hlim; ⟨mc, nsK h1, h2⟩⟩
    have e0 : Env0 P w K mg (Dv s₁.heap H) callerA [] s₁ H := ⟨rfl, hM, fun b o e => Ti e, Nat.le_of_eq (Tg _ _), trivial, fun b hb => absurd (show b ∈ ([] : List Addr) from hb) (by simp), hok, .of_eq hg⟩
    refine codeAny_mono ((F _ hKb (nsK hns)).run callerA [] s₁ H ⟨[.ref a], []⟩ [.ref a] [.ref a] _ _ hr e0 (hbind s₁ (.ref a)) (.cons rfl .nil) (hsp H hO hS)) fun r s' h => ?_
    cases r with
    | error e => exact (hCX H e s' h).elim
    | ok fl =>
      cases fl with
      | next => exact False.elim h
      | brk => exact False.elim h
      | cont => exact False.elim h
      | ret u =>
        obtain ⟨v, H', os, bare, un, hok', r', q⟩ := h
        have q' : v = .bl true := q
        subst q'
        obtain rfl : u = Value.bool true := r'
        refine ⟨rfl, OldK.of_keep fun b o e => ?_, os, bare⟩
        cases q : H b with
        | none => exact un.keep b o e q (by intro z; exact absurd (show b ∈ ([] : List Addr) from z) (by simp)) (by simp)
        | some u =>
          rcases hO b with z | ⟨ob, xs, z⟩
          · rw [q] at z; cases z
          · have z2 := un.frzs b ob _ z
            obtain ⟨e1, _⟩ := hok b _ z
            obtain ⟨e2, _⟩ := hok' b _ z2
            rw [e] at e1; cases e1
            exact e2
  cases hk : K.lookup a with
  | some o =>
    have e := KX a o hk
    rw [ha] at e
    cases e
    refine core (fun _ => none) (fun _ => .inl rfl) (.inr ⟨_, vs.toArray, _, hk, rfl, rfl, rfl, by rw [List.size_toArray, lenV]; exact hl, by simpa using rv⟩) (fun b u z => by have z' : (none : Option HO) = some u := z; cases z') (fun b z => absurd rfl z) fun z => absurd rfl z
  | none =>
    refine core (fun b => if b = a then some (.frz { cls := .type "list", data := .seq vs.toArray } (.lst (ns.map V.int))) else none) (fun b => ?_) (.inl (.inr ⟨{ cls := .type "list", data := .seq vs.toArray }, if_pos rfl⟩)) (fun b u z => ?_) (fun b z => ?_) fun _ => hk
    · by_cases hb : b = a
      · exact .inr ⟨_, _, if_pos hb⟩
      · exact .inl (if_neg hb)
    · by_cases hb : b = a
      · have z' := (if_pos hb).symm.trans z
        cases z'
        subst hb
        exact ⟨ha, by rw [List.length_map]; exact hl, vs, _, rv, ha⟩
      · have z' := (if_neg hb).symm.trans z
        cases z'
    · by_cases hb : b = a
      · exact hb
      · exact absurd (if_neg hb) z
end L2
namespace L2
open PySem PySem.Spec PyProof.Rows
theorem Wx {l : PySem.W.OpenLaw} {n k : Nat} {q : Program} {loose : List Str} {XP : (Str → Option Value) → Heap → Prop} {YP : World → Heap → Prop} {d : DefRec} {K : Params → PySem.W.Frag} {CX : World → CXT} {sp : World → Sp} {x : Str}
    (hn : l.most = some n) (hn2 : n ≤ sizeLine) (hdf : d.params.defaults = []) (hr : Room k callerA)
    (hY : ∀ (w : World) (h : Heap), YP w h → (K w.params).In h)
    (F : ∀ (w : World) (mg : Str → Option Value) (fa : Addr) (h : Heap), (K w.params).In h → h.Ns mainGlobals mg → mg d.name = some (.ref fa) →
      ∃ fd : FuncData, (∀ (s : Shared) (u : Value), BindsTo s fd ⟨[u], []⟩ [(x, u)]) ∧
        ∀ base : Heap, (K w.params).In base → base.Ns mainGlobals mg → FnOk l.prog w (K w.params) mg base (CX w) k fa fd [x] (sp w))
    (hsp : ∀ (w : World) (H : Hp) (a : Addr) (ns : List Int), ns.length ≤ n → Iv H → SqL (K w.params) H a (ns.map V.int) → sp w [.ref a] H (fun v _ => v = .bl true) fun _ _ _ => False)
    (hCX : ∀ (w : World) (H : Hp) (s : Shared) (e : Value) (s' : Shared), CX w [] H s (fun _ _ _ => False) e s' → False) :
    PySem.W.WalkO q loose XP YP l.row.toRowW d [] (fun f vs => PySem.call f vs) := by
  refine Att.Ww hn hdf fun w s₀ s₁ mg mb fa o pm cd doc a vs ns G Y ho hd hcd hmg hobj hints hlen hg => ?_
  have KX := hY w _ Y
  obtain ⟨fd, hb, hF⟩ := F w mg fa _ KX G.T.g hmg
  exact wx KX G.T.g G.T.b G.T.builtins G.T.nolimit hg hobj hints (Nat.le_trans hlen hn2) hr hF hb (fun H hO hS => hsp w H a ns hlen hO hS) fun H e s' => hCX w H s₁ e s'
end L2
namespace L2
open PySem PySem.Spec PyProof.Rows
def gu (s : Stmt) : Arguments := match s with
 | .FunctionDef _ a _ _ _ _ _ _ _ _ => a
 | _ => { posonlyargs := [], args := [], vararg := none, kwonlyargs := [], kw_defaults := [], kwarg := none, defaults := [] }
def er (s : Stmt) : List Stmt := match s with
 | .FunctionDef _ _ b _ _ _ _ _ _ _ => b
 | _ => []
def Ao (s : Stmt) : Scope := match s with
 | .FunctionDef _ _ _ _ _ _ sc _ _ _ => sc
 | _ => { kind := .function, names := [], isGenerator := false, isCoroutine := false }
abbrev CX0 : CXT := fun _ _ _ _ _ _ => False
structure Fun (K : PySem.W.Frag) (x qual : Str) (st : Stmt) (f : Addr) (fd : FuncData) : Prop where
 ex : ∃ (oc : Value) (od : Option Addr) (kV doc pm : Value) (an : Option Addr) (cdv ct : Value) (osl : Array (Option Value)),
  fd = PySem.W.fnOf x qual (gu st) (er st) (Ao st) .none kV doc pm an cdv ct ∧ K.lookup f = some ⟨oc, od, .func fd, osl⟩ ∧ PySem.W.codeIn K cdv qual = true
 kp : PySem.W.keepIn K (.ref f) = true
section
variable {P : Program} {w : World} {K : PySem.W.Frag} {mg : Str → Option Value} {base : Heap}
theorem Fun.ok {x qual : Str} {st : Stmt} {f : Addr} {fd : FuncData} {N ps : List Str} {k : Nat} {sp : Sp} (F : Fun K x qual st f fd) (S : FnScope N ps (Ao st)) (len : ∀ vs H Q E, sp vs H Q E → vs.length = ps.length)
    (hbody : ∀ (cdv : Value) (A : Around) (outer : List Env) (s : Shared) (H : Hp) (vs : List V) (Q : VK) (E : XK), Room k (A.deeper (envOfC qual (Ao st) s.heap.objs.size f cdv)) → sp vs H Q E →
      ∃ t, PSs (dw CX0 P w K mg base N qual (Ao st) f cdv A outer s H E).nox (er st) t ∧ t { nx := fun _ H' => Q .non H', rt := Q } (start N vs) H) : FnOk P w K mg base CX0 (k + 1) f fd ps sp := by
  obtain ⟨oc, od, kV, doc, pm, an, cdv, ct, osl, rfl, lk, hcd⟩ := F.ex
  refine ni lk hcd S len fun A outer s H vs Q E hr hsp => ?_
  obtain ⟨t, h, q⟩ := hbody cdv A outer s H vs Q E hr hsp
  exact ⟨t, h.nox, q⟩
end
section
variable {X : Cx}
theorem pv (i : Nat) {x : Str} {pos : Pos} (hN : X.N[i]? = some x := by rfl) (hv : Vis X.env.scope x := by first | exact Or.inl rfl | exact Or.inr (Or.inl rfl) | exact Or.inr (Or.inr rfl)) (hd : (x == ("__debug__" : Str)) = false := by decide)
    (hcd : (x == ("__classdict__" : Str)) = false := by decide) : PE X (.Name x pos) (kf i) := tm hN hv hd hcd
end
theorem fo {A B : Prop} (h : B) : if false = true then A else B := by
 rw [if_neg Bool.false_ne_true]
 exact h
theorem Fo {A B : Prop} (h : A) : if true = true then A else B := by
 rw [if_pos rfl]
 exact h
def Bd (H H' : Hp) : Prop := ∀ b o, H b = some o → H' b = some o
theorem Bd.trans {H H1 H2 : Hp} (a : Bd H H1) (b : Bd H1 H2) : Bd H H2 := fun c o h => b c o (a c o h)
theorem Bd.free {H H' : Hp} (e : Bd H H') {l : Addr} (h : H' l = Option.none) : H l = Option.none := by
 cases q : H l with
 | none => rfl
 | some o =>
  rw [e l o q] at h
  cases h
theorem Bd.seq {K : PySem.W.Frag} {H H' : Hp} {a : Addr} {xs : List V} (e : Bd H H') (h : SqL K H a xs) : SqL K H' a xs := by
 rcases h with (h | ⟨o, h⟩) | h
 · exact .inl (.inl (e _ _ h))
 · exact .inl (.inr ⟨o, e _ _ h⟩)
 · exact .inr h
section
variable {κ : Type} [DecidableEq κ]
end
end L2
namespace DD
open PySem PySem.Builtin L2
open PyProof.Rows (IsTup.new)
theorem wy (l : Addr) (items : Array Value) (n : Nat) (dd : Option Addr) (sl : Array (Option Value)) (x : Int) (u : Tok) (h1 : (decide (x < -2 ^ 63) || decide (x ≥ 2 ^ 63)) = false) (h2 : (items.isEmpty || x == 1) = true) :
    Meets (Builtin.«tuple.__mul__» ⟨[.ref l, .int x u], []⟩) (fun _ R s => s.heap.get? l = some { cls := .type "tuple", dict := dd, data := .seq items n, slots := sl } ∧ R (.ok (.ret (Value.ref l))) s) :=
  .of_wp fun pr wd Ar Rs s0 hh => by
    obtain ⟨hp0, gn, dr, tk0, os0⟩ := s0
    obtain ⟨hl, hh⟩ := hh
    wp_walk
    refine wpAny_ite_false (by rw [h1]; rfl) ?_
    wp_walk
    exact ⟨_, rfl, hh⟩
theorem Wy (l : Addr) (items : Array Value) (n : Nat) (dd : Option Addr) (sl : Array (Option Value)) (x : Int) (u : Tok) (h1 : (decide (x < -2 ^ 63) || decide (x ≥ 2 ^ 63)) = false) (h2 : (items.isEmpty || x == 1) = false) (h3 : (decide (x ≤ 0) || items.isEmpty) = true) :
    Meets (Builtin.«tuple.__mul__» ⟨[.ref l, .int x u], []⟩) (fun _ R s => s.heap.get? l = some { cls := .type "tuple", dict := dd, data := .seq items n, slots := sl } ∧ R (.ok (.ret (Value.ref s.heap.objs.size))) { s with heap := s.heap.push { cls := .type "tuple", data := .seq #[] } }) :=
  .of_wp fun pr wd Ar Rs s0 hh => by
    obtain ⟨hp0, gn, dr, tk0, os0⟩ := s0
    obtain ⟨hl, hh⟩ := hh
    wp_walk
    refine wpAny_ite_false (by rw [h1]; rfl) ?_
    wp_walk
    exact ⟨_, rfl, hh⟩
theorem wz (l : Addr) (items : Array Value) (n : Nat) (dd : Option Addr) (sl : Array (Option Value)) (x : Int) (u : Tok) (h1 : (decide (x < -2 ^ 63) || decide (x ≥ 2 ^ 63)) = false) (h2 : (items.isEmpty || x == 1) = false) (h3 : (decide (x ≤ 0) || items.isEmpty) = false) (h4 : ¬ ((items.size : Int) * x > (2 ^ 63 - 1) / 8)) (h5 : Tuple.tupleTooMany ((items.size : Int) * x) = false) (h6 : (List.foldl (fun x1 x2 => x1 ++ x2) #[] (List.replicate x.toNat items)).size ≤ sizeLine) :
    Meets (Builtin.«tuple.__mul__» ⟨[.ref l, .int x u], []⟩) (fun _ R s => s.heap.get? l = some { cls := .type "tuple", dict := dd, data := .seq items n, slots := sl } ∧ R (.ok (.ret (Value.ref s.heap.objs.size))) { s with heap := s.heap.push { cls := .type "tuple", data := .seq (List.foldl (fun x1 x2 => x1 ++ x2) #[] (List.replicate x.toNat items)) } }) :=
  .of_wp fun pr wd Ar Rs s0 hh => by
    obtain ⟨hp0, gn, dr, tk0, os0⟩ := s0
    obtain ⟨hl, hh⟩ := hh
    wp_walk
    refine wpAny_ite_false (by rw [h1]; rfl) ?_
    wp_walk
    refine wpAny_ite_false (decide_eq_false h4) ?_
    wp_walk
    exact ⟨_, rfl, hh⟩
theorem Wz (a : Int) (t : Tok) (l : Addr) (items : Array Value) (n : Nat) (dd : Option Addr) (sl : Array (Option Value)) :
    Meets (Builtin.«int.__rmul__» ⟨[.int a t, .ref l], []⟩) (fun _ R s => s.heap.get? l = some { cls := .type "tuple", dict := dd, data := .seq items n, slots := sl } ∧ R (.ok (.ret Value.notImplemented)) s) :=
  .of_wp fun pr wd Ar Rs s0 hh => by
    obtain ⟨hp0, gn, dr, tk0, os0⟩ := s0
    obtain ⟨hl, hh⟩ := hh
    wp_walk
    exact ⟨_, rfl, hh⟩
theorem xa : fillsNumberSlot (.type "tuple") "mul" = pure false :=
 fillsNumberSlot_seq (id := "tuple.__mul__") (r := some (.builtin "tuple.__rmul__")) PySem.F.slot_tuple_mul.lookup (by decide +kernel) PySem.F.slot_tuple_rmul.lookup (by decide +kernel)
theorem Xa : seqRepeat? (.type "tuple") = pure (some (.builtin "tuple.__mul__")) := by
 unfold seqRepeat?
 rw [seqSlot_of (T := "tuple") (name := "__mul__") (id := "tuple.__mul__") PySem.F.slot_tuple_mul.lookup (by decide +kernel), seqSlot_of (T := "tuple") (name := "__rmul__") (id := "tuple.__rmul__") PySem.F.slot_tuple_rmul.lookup (by decide +kernel)]
 rfl
theorem Kq {α : Type} (k : Nat) (xs : List α) : (List.replicate k xs).flatten.length = k * xs.length := by simp
def xb (K : PySem.W.Frag) : R2 := fun x y H Q => ∃ a k xs, x = .ref a ∧ y = .int k ∧ SqT K H a xs ∧ -(2 ^ 63) ≤ k ∧ k < 2 ^ 63 ∧ xs.length * k.toNat ≤ sizeLine ∧
 (((List.replicate k.toNat xs).flatten = xs → Q (.ref a) H) ∧ ∀ p, H p = none → Q (.ref p) (upd H p (.tup (List.replicate k.toNat xs).flatten)))
theorem Xb {X : Cx} : OpR X (binaryOp .Mult) (xb X.K) := by
 intro pins s σ H x y v u Q I rx ry h
 obtain ⟨a, k, xs, rfl, rfl, ha, h1, h2, hz, q1, q2⟩ := h
 cases rx
 obtain ⟨t, rfl⟩ := ry
 obtain ⟨its, r, p, hsz⟩ := I.tuple ha
 obtain ⟨⟨cls, dd, data, sl⟩, ho, hc, n, hd⟩ := id p
 simp only at hc hd
 subst hc hd
 have e1 : (decide (k < -2 ^ 63) || decide (k ≥ 2 ^ 63)) = false := by
  rw [decide_eq_false (by omega), decide_eq_false (by omega)]; rfl
 have hl := r.length
 refine wpAny_binaryOp_repeat_ref (T := "tuple") (U := "int") (by decide) ⟨_, ho, rfl⟩ (fun s' => typeIs_int s' k t) xa PySem.F.fills_int_mul PySem.F.slot_int_rmul Xa PySem.F.slot_int_index.lookup
  (call_meets PySem.F.slot_int_rmul (typeIs_int s k t) PySem.F.entry_int_rmul (PySem.F.args_int_rmul_2 _ _) (Wz k t a its.toArray n dd sl)
   ⟨ho, rfl, ⟨_, ho, rfl⟩, ?_⟩)
 cases e2 : (its.toArray.isEmpty || k == 1) with
 | true =>
  refine call_meets PySem.F.slot_tuple_mul ⟨_, ho, rfl⟩ PySem.F.entry_tuple_mul (PySem.F.args_tuple_mul_2 _ _) (wy a its.toArray n dd sl k t e1 e2) ⟨ho, ?_⟩
  refine ⟨.ref a, H, I, rfl, q1 ?_⟩
  simp only [Bool.or_eq_true, beq_iff_eq] at e2
  rcases e2 with e2 | rfl
  · have : its = [] := by simpa using e2
    subst this
    have : xs = [] := by simpa using hl
    subst this
    simp
  · simp
 | false =>
  cases e3 : (decide (k ≤ 0) || its.toArray.isEmpty) with
  | true =>
   refine call_meets PySem.F.slot_tuple_mul ⟨_, ho, rfl⟩ PySem.F.entry_tuple_mul (PySem.F.args_tuple_mul_2 _ _) (Wy a its.toArray n dd sl k t e1 e2 e3) ⟨ho, ?_⟩
   have hk : k.toNat = 0 := by
    simp only [Bool.or_eq_true, decide_eq_true_eq] at e3
    rcases e3 with e3 | e3
    · omega
    · simp [e3] at e2
   rw [hk] at q2
   refine ⟨.ref s.heap.objs.size, _, I.laid (t' := s.toks) (o := .tup []) (fun b ob q => Heap.get?_push_of_some _ q) (Nat.le_refl _) ?_, rfl, q2 _ (I.hok.fresh (Nat.le_refl _))⟩
   exact ⟨by simp, [], .nil, IsTup.new _ _⟩
  | false =>
   simp only [Bool.or_eq_false_iff, decide_eq_false_iff_not] at e3
   have hk : (k.toNat : Int) = k := Int.toNat_of_nonneg (by omega)
   have hz2 : its.length * k.toNat ≤ sizeLine := by rw [← hl]; exact hz
   have hz3 : (its.toArray.size : Int) * k ≤ 16777216 := by
    have : ((its.length * k.toNat : Nat) : Int) ≤ ((sizeLine : Nat) : Int) := Int.ofNat_le.mpr hz2
    rw [Int.natCast_mul, hk] at this
    rw [List.size_toArray]
    exact Int.le_trans this (by decide)
   have hnew : List.foldl (fun x1 x2 => x1 ++ x2) #[] (List.replicate k.toNat its.toArray) = (List.replicate k.toNat its).flatten.toArray := by
    have := foldl_rep its k.toNat []
    rw [List.nil_append] at this
    exact this
   refine call_meets PySem.F.slot_tuple_mul ⟨_, ho, rfl⟩ PySem.F.entry_tuple_mul (PySem.F.args_tuple_mul_2 _ _) (wz a its.toArray n dd sl k t e1 e2 (by simp [e3]) (by omega) ?_ ?_) ⟨ho, ?_⟩
   · unfold Tuple.tupleTooMany
     refine decide_eq_false ?_
     have : ((its.length * k.toNat : Nat) : Int) ≤ ((sizeLine : Nat) : Int) := Int.ofNat_le.mpr hz2
     rw [Int.natCast_mul, hk] at this
     rw [List.size_toArray]
     omega
   · rw [hnew, List.size_toArray, Kq, Nat.mul_comm]; exact hz2
   · rw [hnew]
     refine ⟨.ref s.heap.objs.size, _, I.laid (t' := s.toks) (o := .tup (List.replicate k.toNat xs).flatten) (fun b ob q => Heap.get?_push_of_some _ q) (Nat.le_refl _) ?_, rfl, q2 _ (I.hok.fresh (Nat.le_refl _))⟩
     exact ⟨by rw [Kq, Nat.mul_comm]; exact hz, _, r.rep k.toNat, IsTup.new _ _⟩
theorem Oa {α : Type} (its : List α) : ∀ (k : Nat) (acc : List α), List.foldl (fun x1 x2 => x1 ++ x2) acc.toArray (List.replicate k its.toArray) = (acc ++ (List.replicate k its).flatten).toArray
 | 0, acc => by simp
 | k + 1, acc => by
  have e : acc.toArray ++ its.toArray = (acc ++ its).toArray := by simp
  have e2 : (acc ++ its) ++ (List.replicate k its).flatten = acc ++ (List.replicate (k + 1) its).flatten := by
   rw [List.replicate_succ, List.flatten_cons, List.append_assoc]
  rw [← e2, ← Oa its k (acc ++ its), ← e, List.replicate_succ, List.foldl_cons]
def Fp (z : Str) (k : Nat) : Str := ⟨(List.replicate k z.cps.toList).flatten.toArray⟩
theorem xc {X : Cx} : OpR X (binaryOp .Mult) (fun x y H Q => ∃ z k, x = .str z ∧ y = .int k ∧ 1 < k ∧ k < 2 ^ 63 ∧ 0 < z.length ∧ z.length * k.toNat ≤ sizeLine ∧ Q (.str (Fp z k.toNat)) H) := by
 intro pins s σ H x y v u Q I rx ry h
 obtain ⟨z, k, rfl, rfl, h1, h2, h3, h4, q⟩ := h
 obtain ⟨t, rfl⟩ := rx
 obtain ⟨t', rfl⟩ := ry
 have hz : (z.length == 0) = false := by simp; omega
 have hk : (k.toNat : Int) = k := Int.toNat_of_nonneg (by omega)
 have h5 : (z.length : Int) * k ≤ 16777216 := by
  have : ((z.length * k.toNat : Nat) : Int) ≤ ((sizeLine : Nat) : Int) := Int.ofNat_le.mpr h4
  rw [Int.natCast_mul, hk] at this
  exact Int.le_trans this (by decide)
 have e : (⟨(List.replicate k.toNat z.cps).foldl (· ++ ·) #[]⟩ : Str) = Fp z k.toNat := by
  have := Oa z.cps.toList k.toNat []
  rw [List.nil_append, Array.toArray_toList] at this
  unfold Fp
  rw [← this]
 refine PySem.P.mul_str (by rw [decide_eq_false (by omega), decide_eq_false (by omega)]; rfl) (fun _ _ hb => ?_) (fun _ _ => decide_eq_false (by omega)) ?_
 · have := (Int.le_ediv_iff_mul_le (a := (z.length : Int)) (b := (2 ^ 63 - 1)) (c := k) (by omega)).mpr (by omega)
   omega
 · rw [if_neg (by omega), if_neg (by simp [hz]; omega), e]
   refine ⟨?_, .str (Fp z k.toNat), H, I.tok _, ⟨_, rfl⟩, q⟩
   show (Fp z k.toNat).cps.size ≤ sizeLine
   unfold Fp
   rw [List.size_toArray, Kq, Nat.mul_comm]
   exact h4
end DD
set_option genSizeOf false
namespace DD
open PySem
inductive D where
 | non | bl (b : Bool) | int (i : Int) | str (x : Str) | tup (ds : List D) | loc (n : Nat)
 deriving Inhabited
mutual
noncomputable def D.beq : D → D → Bool
 | .non, .non => true
 | .bl a, .bl b => a == b
 | .int a, .int b => a == b
 | .str a, .str b => decide (a = b)
 | .tup a, .tup b => D.beqL a b
 | .loc a, .loc b => a == b
 | _, _ => false
noncomputable def D.beqL : List D → List D → Bool
 | [], [] => true
 | a :: r, b :: t => D.beq a b && D.beqL r t
 | _, _ => false
end
mutual
theorem D.beq_eq : ∀ {a b : D}, D.beq a b = true → a = b
 | .non, b, h => by cases b <;> first | rfl | simp [D.beq] at h
 | .bl x, b, h => by cases b <;> simp [D.beq] at h; rw [h]
 | .int x, b, h => by cases b <;> simp [D.beq] at h; rw [h]
 | .str x, b, h => by cases b <;> simp [D.beq] at h; rw [h]
 | .loc x, b, h => by cases b <;> simp [D.beq] at h; rw [h]
 | .tup x, b, h => by
  cases b with
  | tup y =>
   have e : x = y := D.beqL_eq (by simpa [D.beq] using h)
   rw [e]
  | _ => simp [D.beq] at h
theorem D.beqL_eq : ∀ {a b : List D}, D.beqL a b = true → a = b
 | [], [], _ => rfl
 | [], _ :: _, h => by simp [D.beqL] at h
 | _ :: _, [], h => by simp [D.beqL] at h
 | x :: r, y :: t, h => by
  simp only [D.beqL, Bool.and_eq_true] at h
  rw [D.beq_eq h.1, D.beqL_eq h.2]
end
mutual
theorem D.beq_refl : ∀ a : D, D.beq a a = true
 | .non => rfl
 | .bl x => by simp [D.beq]
 | .int x => by simp [D.beq]
 | .str x => by simp [D.beq]
 | .loc x => by simp [D.beq]
 | .tup x => by simp only [D.beq]; exact D.beqL_refl x
theorem D.beqL_refl : ∀ a : List D, D.beqL a a = true
 | [] => rfl
 | x :: r => by simp only [D.beqL, Bool.and_eq_true]; exact ⟨D.beq_refl x, D.beqL_refl r⟩
end
instance : DecidableEq D := fun a b => decidable_of_iff (D.beq a b = true) ⟨D.beq_eq, fun h => h ▸ D.beq_refl a⟩
inductive Cell where
 | lst (ds : List D)
 | frz (ds : List D)
 | dct (kvs : List (D × D))
 | dcn (kvs : List (D × D))
 | dcf (kvs : List (D × D))
 | dcg (kvs : List (D × D))
 | fnc (i : Nat)
 | ins (c : Nat) (fs : List (Str × D))
 | exn (c : Nat)
 deriving Inhabited
abbrev Sto := List Cell
abbrev Env := List (Option D)
inductive Res (α : Type) where
 | ok (a : α) (st : Sto)
 | exc (c : Nat) (st : Sto)
 | bad
def Res.bind {α β : Type} (r : Res α) (f : α → Sto → Res β) : Res β := match r with
 | .ok a st => f a st
 | .exc c st => .exc c st
 | .bad => .bad
@[simp] theorem bc {α β : Type} (a : α) (st : Sto) (f : α → Sto → Res β) : (Res.ok a st).bind f = f a st := rfl
@[simp] theorem ake {α β : Type} (c : Nat) (st : Sto) (f : α → Sto → Res β) : (Res.exc c st : Res α).bind f = .exc c st := rfl
@[simp] theorem akf {α β : Type} (f : α → Sto → Res β) : (Res.bad : Res α).bind f = .bad := rfl
inductive Ty where
 | b (x : String) | o (n : Nat)
 deriving DecidableEq
noncomputable def Xc : Cell → Option Ty
 | .lst _ => some (.b "list")
 | .frz _ => some (.b "list")
 | .dct _ => some (.b "dict")
 | .dcn _ => some (.b "dict")
 | .dcf _ => some (.b "dict")
 | .dcg _ => some (.b "dict")
 | .fnc _ => none
 | .ins _ _ => none
 | .exn c => some (.o c)
noncomputable def Et (st : Sto) : D → Option Ty
 | .non => some (.b "NoneType")
 | .bl _ => some (.b "bool")
 | .int _ => some (.b "int")
 | .str _ => some (.b "str")
 | .tup _ => some (.b "tuple")
 | .loc n => (st[n]?).bind Xc
noncomputable def Am (st : Sto) (n : Nat) : Option (List D) := match st[n]? with
 | some (.lst ds) => some ds
 | some (.frz ds) => some ds
 | _ => none
noncomputable def Dw (st : Sto) : D → Option (List D)
 | .tup ds => some ds
 | .loc n => Am st n
 | _ => none
noncomputable def truth (st : Sto) : D → Option Bool
 | .non => some false
 | .bl b => some b
 | .int i => some (i != 0)
 | .str x => if x.length ≤ sizeLine then some ((x.length : Int) != 0) else none
 | .tup ds => some (!ds.isEmpty)
 | .loc n => (Am st n).map fun ds => !ds.isEmpty
def Bn {α : Type} : List (Option α) → Option (List α)
 | [] => some []
 | some a :: r => (Bn r).map (a :: ·)
 | none :: _ => none
noncomputable def Ap (st : Sto) : Nat → D → Option PyData
 | _, .non => some .none
 | _, .bl b => some (.bool b)
 | _, .int i => some (.int i)
 | _, .str x => if PyData.canLay0 (.str x) = true then some (.str x) else none
 | 0, _ => none
 | n + 1, .tup ds => (Bn (ds.map (Ap st n))).map .tuple
 | n + 1, .loc m => (Am st m).bind fun ds => (Bn (ds.map (Ap st n))).map .list
noncomputable def eqV (st : Sto) (a b : D) : Option Bool := match Ap st 40 a, Ap st 40 b with
 | some x, some y => some (PyData.eqv x y)
 | _, _ => none
inductive Op where
 | add | sub | mul | fdiv | mod | pow
inductive Cm where
 | eq | ne | lt | le | gt | ge | isN | notN | inL | notIn
inductive Bt where
 | absB | intB | lenB | listB | tupleB | minB | maxB | allB | anyB | lenSetB | minLB | maxLB | lenSetT
 deriving DecidableEq
inductive Mt where
 | append | clear | extend | pop | get | upd | sdef | vals | rev | keysL | copyD | popk | popD | popI | upper | put1 | revI | maxd | frzD | clearN | eqM | neM | getN | sdefN | frzN | keysN | copyN | popN | eqG | neG
set_option genInjectivity false
mutual
inductive E where
 | var (i : Nat)
 | cst (d : D)
 | tupE (es : Es)
 | lstE (es : Es)
 | op (o : Op) (a b : E)
 | neg (a : E)
 | cm (c : Cm) (a b : E)
 | andE (a b : E)
 | orE (a b : E)
 | notE (a : E)
 | ifE (c a b : E)
 | call (f : Nat) (es : Es) (dv : List D)
 | bt (f : Bt) (es : Es)
 | ix (a b : E)
 | isi (a : E) (t : Ty)
 | dnew
 | dnewN
 | sl (k : Nat) (a : E) (es : Es)
 | chn (c1 c2 : Cm) (a b c : E)
 | fld (c : Nat) (o : E) (f : Str)
 | mk (c f : Nat) (es : Es)
 | Ds (c f : Nat) (m : Str) (o : E) (es : Es)
 | callV (is : List Nat) (f : E) (es : Es)
 | tabV (rows : List (Str × D)) (k : E)
 | tabIn (neg : Bool) (rows : List Str) (k : E)
 | tabF (rows : List (Str × Nat)) (k : E)
 | mt (m : Mt) (o : E) (es : Es)
 | dcomp (n : Nat) (one : Bool) (nl : Nat) (tg : List Nat) (fv : List Nat) (it : E) (ifs : Es) (kx vx : E)
 | dcompN (n : Nat) (one : Bool) (nl : Nat) (tg : List Nat) (fv : List Nat) (it : E) (ifs : Es) (kx vx : E)
 | comp (n : Nat) (one : Bool) (nl : Nat) (tg : List Nat) (fv : List Nat) (it : E) (ifs : Es) (elt : E)
inductive Es where
 | nil
 | cons (e : E) (es : Es)
end
mutual
inductive S where
 | set (i : Nat) (e : E)
 | unp (is : List Nat) (e : E)
 | unpL (is : List Nat) (e : E)
 | par (i j : Nat) (a b : E)
 | aug (i : Nat) (o : Op) (e : E)
 | ifS (c : E) (a b : Ss)
 | whileS (c : E) (b : Ss)
 | forS (tg : List Nat) (one : Bool) (k : Bool) (it : E) (b : Ss)
 | forR (tg : List Nat) (es : Es) (b : Ss)
 | forE (i : Nat) (tg : List Nat) (one : Bool) (it : E) (b : Ss)
 | forD (kd : Bool) (tg : List Nat) (one : Bool) (it : E) (b : Ss)
 | forZT (t1 : List Nat) (o1 : Bool) (t2 : List Nat) (o2 : Bool) (a c : E) (b : Ss)
 | forZ (t1 : List Nat) (o1 : Bool) (t2 : List Nat) (o2 : Bool) (a c : E) (b : Ss)
 | setf (c : Nat) (o : E) (f : Str) (e : E)
 | dput (d k v : E)
 | ret (e : E)
 | retN
 | ex (e : E)
 | raiseS (c : Nat)
 | tryS (b : Ss) (c : Nat) (i : Nat) (h : Ss)
 | pass
inductive Ss where
 | nil
 | cons (s : S) (r : Ss)
end
set_option genInjectivity true
noncomputable def BIG : Nat := 2 ^ 4000
def Gu (i : Int) : Prop := -(2 ^ 64) < i ∧ i < 2 ^ 64
instance (i : Int) : Decidable (Gu i) := by unfold Gu; infer_instance
def Eu (i j : Int) : Prop := Gu i ∨ Gu j ∨ (i.natAbs < BIG ∧ j.natAbs < BIG)
instance (i j : Int) : Decidable (Eu i j) := by unfold Eu; infer_instance
def Dx (j : Int) : Prop := j ≠ 0 ∧ j.natAbs < BIG
instance (j : Int) : Decidable (Dx j) := by unfold Dx; infer_instance
def Ho (i j : Int) : Prop := 0 ≤ j ∧ j ≤ 1000000 ∧ i.natAbs < 2 ^ 64
instance (i j : Int) : Decidable (Ho i j) := by unfold Ho; infer_instance
noncomputable def Ba (st : Sto) (n : Nat) : Option (List (D × D)) := match st[n]? with
 | some (.dct kvs) => some kvs
 | _ => none
noncomputable def ay (kvs : List (D × D)) (k : D) : Option D := (kvs.find? fun p => decide (p.1 = k)).map (·.2)
noncomputable def bu (kvs : List (D × D)) (k v : D) : List (D × D) := if (kvs.any fun p => decide (p.1 = k)) = true then kvs.map fun p => if p.1 = k then (p.1, v) else p else kvs ++ [(k, v)]
noncomputable def Bs : D → Bool
 | .str _ => true
 | .int _ => true
 | _ => false
noncomputable def okN : Nat → D → Bool
 | _, .int _ => true
 | _, .str x => PyData.canLay0 (.str x)
 | n + 1, .tup ds => ds.all (okN n)
 | _, _ => false
noncomputable def dc : D → Bool
 | .tup ds => okN 8 (.tup ds)
 | _ => false
noncomputable def bh (st : Sto) (n : Nat) : Option (List (D × D)) := match st[n]? with
 | some (.dcn kvs) => some kvs
 | _ => none
noncomputable def opD (o : Op) (a b : D) (st : Sto) : Res D := match o, a, b with
 | .add, .int i, .int j => .ok (.int (i + j)) st
 | .sub, .int i, .int j => .ok (.int (i - j)) st
 | .mul, .int i, .int j => if Eu i j then .ok (.int (i * j)) st else .bad
 | .fdiv, .int i, .int j => if Dx j then .ok (.int (i.fdiv j)) st else .bad
 | .mod, .int i, .int j => if j ≠ 0 then .ok (.int (i.fmod j)) st else .bad
 | .pow, .int i, .int j => if Ho i j then .ok (.int (i ^ j.toNat)) st else .bad
 | .add, .str a, .str b => if a.length + b.length ≤ sizeLine then .ok (.str (a ++ b)) st else .bad
 | .add, .loc n, .loc m => match st[n]?, st[m]? with
  | some (.lst xs), some (.lst ys) => if xs.length + ys.length ≤ sizeLine then .ok (.loc st.length) (st ++ [.lst (xs ++ ys)]) else .bad
  | _, _ => .bad
 | .mul, .str z, .int k => if 1 < k ∧ k < 2 ^ 63 ∧ 0 < z.length ∧ z.length * k.toNat ≤ sizeLine then .ok (.str (Fp z k.toNat)) st else .bad
 | .mul, .tup ds, .int k => if -(2 ^ 63) ≤ k ∧ k < 2 ^ 63 ∧ ds.length * k.toNat ≤ sizeLine then .ok (.tup (List.replicate k.toNat ds).flatten) st else .bad
 | .mul, .loc n, .int k => match st[n]? with
  | some (.lst xs) => if -(2 ^ 63) ≤ k ∧ k < 2 ^ 63 ∧ xs.length * k.toNat ≤ sizeLine then .ok (.loc st.length) (st ++ [.lst (List.replicate k.toNat xs).flatten]) else .bad
  | _ => .bad
 | _, _, _ => .bad
noncomputable def kr : D → Bool
 | .non => true
 | .bl _ => true
 | .int _ => true
 | .str _ => true
 | _ => false
noncomputable def toV : D → L2.V
 | .non => .non
 | .bl b => .bl b
 | .int i => .int i
 | .str x => .str x
 | _ => .non
noncomputable def inS (st : Sto) (a b : D) : Option Bool := match Ap st 40 a, Ap st 41 b with
 | some x, some (.list ys) => some (ys.any fun y => PyData.eqv y x)
 | some x, some (.tuple ys) => some (ys.any fun y => PyData.eqv y x)
 | _, _ => none
noncomputable def inD (st : Sto) (a b : D) : Option Bool := match b with
 | .str y => match a with | .str x => some (!(Builtin.Str.occurrences y x 0 y.length 1).isEmpty) | _ => none
 | .loc n => match Ba st n with
  | some kvs => if Bs a then some (ay kvs a).isSome else none
  | none => match bh st n with
   | some kvs => if dc a then some (ay kvs a).isSome else none
   | none => inS st a b
 | _ => inS st a b
def Kr (st : Sto) (kb : List (D × D)) : List (D × D) → Option Bool
 | [] => some true
 | (k, v) :: r => match ay kb k with
  | none => some false
  | some y => (eqV st v y).bind fun e => (Kr st kb r).map fun b => e && b
def eqN (st : Sto) (a b : D) : Option Bool := match a, b with
 | .loc n, .loc m => (match bh st n, bh st m with
  | some ka, some kb => if ka.length = kb.length then Kr st kb ka else some false
  | _, _ => none)
 | _, _ => none
def eqG (st : Sto) : Nat → D → D → Option Bool
 | n + 1, .tup xs, .tup ys => (Bn (List.zipWith (eqG st n) xs ys)).map fun bs => bs.all id && xs.length == ys.length
 | n + 1, .loc a, .loc b => if a = b then none else (match st[a]?, st[b]? with
  | some (.lst xs), some (.lst ys) => if xs.length = ys.length then (Bn (List.zipWith (eqG st n) xs ys)).map fun bs => bs.all id else some false
  | some (.dcn ka), some (.dcn kb) => if ka.length = kb.length then Kr st kb ka else some false
  | _, _ => none)
 | _, .int i, .int j => some (i == j)
 | _, .str x, .str y => some (x == y)
 | _, _, _ => none
def gv (st : Sto) (n : Nat) : Option (List (D × D)) := match st[n]? with
 | some (.dcg kvs) => some kvs
 | _ => none
def Xd : D → Bool
 | .tup ds => ds.all fun d => match d with | .int _ => true | _ => false
 | _ => false
noncomputable def cmD (c : Cm) (a b : D) (st : Sto) : Res D := match c with
 | .eq => match eqV st a b with | some x => .ok (.bl x) st | none => .bad
 | .ne => match eqV st a b with | some x => .ok (.bl (!x)) st | none => .bad
 | .lt => match a, b with | .int i, .int j => .ok (.bl (decide (i < j))) st | _, _ => .bad
 | .le => match a, b with | .int i, .int j => .ok (.bl (decide (i ≤ j))) st | _, _ => .bad
 | .gt => match a, b with | .int i, .int j => .ok (.bl (decide (j < i))) st | _, _ => .bad
 | .ge => match a, b with | .int i, .int j => .ok (.bl (decide (j ≤ i))) st | _, _ => .bad
 | .isN => match b with | .non => .ok (.bl (decide (a = .non))) st | .bl c => .ok (.bl (decide (a = .bl c))) st | _ => .bad
 | .notN => match b with | .non => .ok (.bl (!decide (a = .non))) st | .bl c => .ok (.bl (!decide (a = .bl c))) st | _ => .bad
 | .inL => match inD st a b with | some x => .ok (.bl x) st | none => .bad
 | .notIn => match inD st a b with | some x => .ok (.bl (!x)) st | none => .bad
noncomputable def atD (xs : List D) (i : Int) : Option D := L2.atI xs i
noncomputable def ixS (a b : D) (st : Sto) : Res D := match b with
 | .int i => match Dw st a with
  | some xs => match atD xs i with | some d => .ok d st | none => .bad
  | none => match a with
   | .str z => match L2.atI z.cps.toList i with
    | some c => if z.length ≤ sizeLine then .ok (.str ⟨#[c]⟩) st else .bad
    | none => .bad
   | _ => .bad
 | _ => .bad
noncomputable def ixD (a b : D) (st : Sto) : Res D := match a with
 | .loc n => match Ba st n with
  | some kvs => if Bs b then (match ay kvs b with | some d => .ok d st | none => .bad) else .bad
  | none => match bh st n with
   | some kvs => if dc b then (match ay kvs b with | some d => .ok d st | none => .bad) else .bad
   | none => match gv st n with
    | some kvs => if dc b then (match ay kvs b with | some d => .ok d st | none => .bad) else .bad
    | none => ixS a b st
 | _ => ixS a b st
noncomputable def iw (k : Nat) (ds : List D) : Option (Option Int × Option Int) := match k, ds with
 | 0, [] => some (none, none)
 | 1, [.int i] => some (some i, none)
 | 2, [.int j] => some (none, some j)
 | 3, [.int i, .int j] => some (some i, some j)
 | _, _ => none
def cutD {α : Type} (xs : List α) (lo hi : Option Int) : List α := (xs.drop (HT.sIx xs.length 0 lo)).take (HT.sIx xs.length xs.length hi - HT.sIx xs.length 0 lo)
noncomputable def slD (k : Nat) (a : D) (ds : List D) (st : Sto) : Res D := match iw k ds with
 | some (lo, hi) => match a with
  | .tup xs => .ok (.tup (cutD xs lo hi)) st
  | .loc n => match Am st n with
   | some xs => .ok (.loc st.length) (st ++ [.lst (cutD xs lo hi)])
   | none => .bad
  | _ => .bad
 | none => .bad
noncomputable def dn : List D → Option (List Bool)
 | [] => some []
 | .bl b :: r => (dn r).map (b :: ·)
 | _ => none
def intsOf : List D → Option (List Int)
 | [] => some []
 | .int b :: r => (intsOf r).map (b :: ·)
 | _ => none
def Xe : List Int → Int
 | [] => 0
 | a :: r => r.foldl (fun m x => if x < m then x else m) a
def Ob (d : Int) : List Int → Int
 | [] => d
 | a :: r => r.foldl (fun m x => if x > m then x else m) a
noncomputable def Iw (xs : List D) : List D := xs.foldl (fun acc x => if x ∈ acc then acc else acc ++ [x]) []
noncomputable def Cu (f : Str) (v : D) : List (Str × D) → List (Str × D)
 | [] => [(f, v)]
 | (g, x) :: r => if g = f then (g, v) :: r else (g, x) :: Cu f v r
noncomputable def btD (f : Bt) (ds : List D) (st : Sto) : Res D := match f with
 | .absB => (match ds with | [.int i] => .ok (.int (if i < 0 then -i else i)) st | _ => .bad)
 | .intB => (match ds with | [.int i] => .ok (.int i) st | [.bl b] => .ok (.int (if b then 1 else 0)) st | _ => .bad)
 | .lenB => (match ds with
  | [.tup xs] => .ok (.int xs.length) st
  | [.loc n] => (match Am st n with | some xs => .ok (.int xs.length) st | none => .bad)
  | [.str z] => if z.length ≤ sizeLine then .ok (.int z.length) st else .bad
  | _ => .bad)
 | .listB => (match ds with | [d] => (match Dw st d with | some xs => .ok (.loc st.length) (st ++ [.lst xs]) | none => .bad) | _ => .bad)
 | .tupleB => (match ds with | [d] => (match Dw st d with | some xs => .ok (.tup xs) st | none => .bad) | _ => .bad)
 | .minB => (match ds with | [.int i, .int j] => .ok (.int (if j < i then j else i)) st | _ => .bad)
 | .maxB => (match ds with | [.int i, .int j] => .ok (.int (if j > i then j else i)) st | _ => .bad)
 | .allB => (match ds with | [.loc n] => (match (Am st n).bind dn with | some bs => .ok (.bl (bs.all id)) st | none => .bad) | _ => .bad)
 | .lenSetB => (match ds with | [.loc n] => (match Am st n with | some xs => if xs.all Bs = true ∧ xs.length < 4000 then .ok (.int (Iw xs).length) st else .bad | none => .bad) | _ => .bad)
 | .lenSetT => (match ds with | [.loc n] => (match Am st n with | some xs => if xs.all Xd = true ∧ xs.length < 4000 ∧ (Iw xs).length ≤ 2 then .ok (.int (Iw xs).length) st else .bad | none => .bad) | _ => .bad)
 | .minLB => (match ds with | [.loc n] => (match (Am st n).bind intsOf with | some (i :: is) => .ok (.int (Xe (i :: is))) st | _ => .bad) | _ => .bad)
 | .maxLB => (match ds with | [.loc n] => (match (Am st n).bind intsOf with | some (i :: is) => .ok (.int (Ob 0 (i :: is))) st | _ => .bad) | _ => .bad)
 | .anyB => (match ds with | [.loc n] => (match (Am st n).bind dn with | some bs => .ok (.bl (bs.any id)) st | none => .bad) | _ => .bad)
noncomputable def Ew (st : Sto) : D → Bool
 | .loc n => match st[n]? with | some (.lst _) => true | _ => false
 | _ => false
noncomputable def rdy (m : Mt) (st : Sto) (d : D) : Bool := match m with
 | .get => (match d with | .loc n => (Ba st n).isSome | _ => false)
 | .upd => (match d with | .loc n => (Ba st n).isSome | _ => false)
 | .sdef => (match d with | .loc n => (Ba st n).isSome | _ => false)
 | .vals => (match d with | .loc n => (Ba st n).isSome | _ => false)
 | .keysL => (match d with | .loc n => (Ba st n).isSome | _ => false)
 | .copyD => (match d with | .loc n => (Ba st n).isSome | _ => false)
 | .popk => (match d with | .loc n => (Ba st n).isSome | _ => false)
 | .popD => (match d with | .loc n => (Ba st n).isSome | _ => false)
 | .rev => (match d with | .loc n => (Am st n).isSome | _ => false)
 | .upper => (match d with | .str _ => true | _ => false)
 | .maxd => (match d with | .loc n => (Am st n).isSome | _ => false)
 | .frzD => (match d with | .loc n => (Ba st n).isSome | _ => false)
 | .clearN => (match d with | .loc n => (bh st n).isSome | _ => false)
 | .eqM => (match d with | .loc n => (bh st n).isSome | _ => false)
 | .neM => (match d with | .loc n => (bh st n).isSome | _ => false)
 | .getN => (match d with | .loc n => (bh st n).isSome | _ => false)
 | .frzN => (match d with | .loc n => (bh st n).isSome | _ => false)
 | .sdefN => (match d with | .loc n => (bh st n).isSome | _ => false)
 | .keysN => (match d with | .loc n => (bh st n).isSome | _ => false)
 | .copyN => (match d with | .loc n => (bh st n).isSome | _ => false)
 | .popN => (match d with | .loc n => (bh st n).isSome | _ => false)
 | .eqG => true
 | .neG => true
 | .put1 => (match d with | .loc n => (Ba st n).isSome | _ => false)
 | _ => Ew st d
noncomputable def Fs (kvs more : List (D × D)) : List (D × D) := more.foldl (fun acc kv => bu acc kv.1 kv.2) kvs
noncomputable def mtD (m : Mt) (o : D) (ds : List D) (st : Sto) : Res D := match m with
 | .append => (match o, ds with
  | .loc n, [d] => (match st[n]? with
   | some (.lst xs) => if xs.length < sizeLine then .ok .non (st.set n (.lst (xs ++ [d]))) else .bad
   | _ => .bad)
  | _, _ => .bad)
 | .clear => (match o, ds with
  | .loc n, [] => (match st[n]? with
   | some (.lst xs) => .ok .non (st.set n (.lst []))
   | _ => .bad)
  | _, _ => .bad)
 | .get => (match o with
  | .loc n => (match Ba st n with
   | some kvs => (match ds with
    | [k] => if Bs k then .ok ((ay kvs k).getD .non) st else .bad
    | [k, x] => if Bs k then .ok ((ay kvs k).getD x) st else .bad
    | _ => .bad)
   | none => .bad)
  | _ => .bad)
 | .upd => (match o, ds with
  | .loc n, [.loc m] => (match Ba st n, Ba st m with
   | some kvs, some more => if n ≠ m ∧ kvs.length + more.length ≤ sizeLine then .ok .non (st.set n (.dct (Fs kvs more))) else .bad
   | _, _ => .bad)
  | _, _ => .bad)
 | .sdef => (match o, ds with
  | .loc n, [k, x] => (match Ba st n with
   | some kvs => if Bs k = true ∧ kvs.length < sizeLine then (match ay kvs k with | some d => .ok d st | none => .ok x (st.set n (.dct (bu kvs k x)))) else .bad
   | none => .bad)
  | _, _ => .bad)
 | .vals => (match o, ds with
  | .loc n, [] => (match Ba st n with
   | some kvs => .ok (.loc st.length) (st ++ [.lst (kvs.map (·.2))])
   | none => .bad)
  | _, _ => .bad)
 | .keysL => (match o, ds with
  | .loc n, [] => (match Ba st n with
   | some kvs => .ok (.loc st.length) (st ++ [.lst (kvs.map (·.1))])
   | none => .bad)
  | _, _ => .bad)
 | .copyD => (match o, ds with
  | .loc n, [] => (match Ba st n with
   | some kvs => .ok (.loc st.length) (st ++ [.dct kvs])
   | none => .bad)
  | _, _ => .bad)
 | .rev => (match o, ds with
  | .loc n, [] => (match Am st n with
   | some xs => .ok (.loc st.length) (st ++ [.lst xs.reverse])
   | none => .bad)
  | _, _ => .bad)
 | .pop => (match o, ds with
  | .loc n, [] => (match st[n]? with
   | some (.lst xs) => (match xs.getLast? with | some d => .ok d (st.set n (.lst xs.dropLast)) | none => .bad)
   | _ => .bad)
  | _, _ => .bad)
 | .upper => (match o, ds with
  | .str x, [] => if (Txt.upper x).length ≤ sizeLine then .ok (.str (Txt.upper x)) st else .bad
  | _, _ => .bad)
 | .frzD => (match o, ds with
  | .loc n, [] => (match Ba st n with | some kvs => .ok (.loc n) (st.set n (.dcf kvs)) | none => .bad)
  | _, _ => .bad)
 | .clearN => (match o, ds with
  | .loc n, [] => (match bh st n with | some _ => .ok .non (st.set n (.dcn [])) | none => .bad)
  | _, _ => .bad)
 | .eqM => (match ds with | [b] => (match eqN st o b with | some x => .ok (.bl x) st | none => .bad) | _ => .bad)
 | .neM => (match ds with | [b] => (match eqN st o b with | some x => .ok (.bl (!x)) st | none => .bad) | _ => .bad)
 | .keysN => (match o, ds with
  | .loc n, [] => (match bh st n with | some kvs => .ok (.loc st.length) (st ++ [.lst (kvs.map (·.1))]) | none => .bad)
  | _, _ => .bad)
 | .copyN => (match o, ds with
  | .loc n, [] => (match bh st n with | some kvs => .ok (.loc st.length) (st ++ [.dcn kvs]) | none => .bad)
  | _, _ => .bad)
 | .popN => (match o, ds with
  | .loc n, [k] => (match bh st n with
   | some kvs => if dc k = true then (match ay kvs k with | some d => .ok d (st.set n (.dcn (kvs.filter fun p => decide (p.1 ≠ k)))) | none => .bad) else .bad
   | none => .bad)
  | _, _ => .bad)
 | .eqG => (match ds with | [b] => (match eqG st 8 o b with | some x => .ok (.bl x) st | none => .bad) | _ => .bad)
 | .neG => (match ds with | [b] => (match eqG st 8 o b with | some x => .ok (.bl (!x)) st | none => .bad) | _ => .bad)
 | .frzN => (match o, ds with
  | .loc n, [] => (match bh st n with | some kvs => .ok (.loc n) (st.set n (.dcg kvs)) | none => .bad)
  | _, _ => .bad)
 | .getN => (match o with
  | .loc n => (match bh st n with
   | some kvs => (match ds with
    | [k] => if dc k then .ok ((ay kvs k).getD .non) st else .bad
    | [k, x] => if dc k then .ok ((ay kvs k).getD x) st else .bad
    | _ => .bad)
   | none => .bad)
  | _ => .bad)
 | .sdefN => (match o, ds with
  | .loc n, [k, x] => (match bh st n with
   | some kvs => if dc k = true ∧ kvs.length < sizeLine then (match ay kvs k with | some d => .ok d st | none => .ok x (st.set n (.dcn (bu kvs k x)))) else .bad
   | none => .bad)
  | _, _ => .bad)
 | .put1 => (match o, ds with
  | .loc n, [k, x] => (match Ba st n with
   | some kvs => if Bs k = true ∧ kvs = [] then .ok (.loc n) (st.set n (.dct [(k, x)])) else .bad
   | none => .bad)
  | _, _ => .bad)
 | .maxd => (match o, ds with
  | .loc n, [.int d] => (match (Am st n).bind intsOf with | some is => .ok (.int (Ob d is)) st | none => .bad)
  | _, _ => .bad)
 | .revI => (match o, ds with
  | .loc n, [] => (match st[n]? with
   | some (.lst xs) => .ok .non (st.set n (.lst xs.reverse))
   | _ => .bad)
  | _, _ => .bad)
 | .extend => (match o, ds with
  | .loc n, [.loc m] => (match st[n]?, st[m]? with
   | some (.lst xs), some (.lst ys) => if xs.length + ys.length ≤ sizeLine then .ok .non (st.set n (.lst (xs ++ ys))) else .bad
   | _, _ => .bad)
  | _, _ => .bad)
 | .popI => (match o, ds with
  | .loc n, [.int i] => (match st[n]? with
   | some (.lst xs) => (match xs with
    | y :: r => if i = 0 then .ok y (st.set n (.lst r)) else .bad
    | [] => .bad)
   | _ => .bad)
  | _, _ => .bad)
 | _ => .bad
noncomputable def subB : String → String → Option Bool := fun t c => if t = c then some true else if t = "bool" ∧ c = "int" then some true else if c = "bool" ∨ c = "int" ∨ c = "tuple" ∨ c = "list" ∨ c = "str" ∨ c = "dict" then some false else none
noncomputable def Ey (tab : Nat → Ty → Option Bool) : Ty → Ty → Option Bool
 | .b t, .b c => subB t c
 | .b _, .o _ => none
 | .o n, c => tab n c
end DD
namespace DD
open PySem
abbrev Or := Nat → List D → Sto → Res D
section
variable (tab : Nat → Ty → Option Bool) (call : Or)
noncomputable def Cd (env : Env) (i : Nat) : Option D := (env[i]?).join
noncomputable def Bq : List Nat → List D → Env → Option Env
 | [], [], env => some env
 | i :: r, d :: t, env => if i < env.length then Bq r t (env.set i (some d)) else none
 | _, _, _ => none
noncomputable def store (tg : List Nat) (one : Bool) (d : D) (env : Env) : Option Env := if one then Bq tg [d] env else match d with
 | .tup ds => Bq tg ds env
 | _ => none
def Ks (k : Nat) : List D → List D
 | [] => []
 | d :: r => .tup [.int k, d] :: Ks (k + 1) r
def xf (kd : Bool) (kvs : List (D × D)) : List D := if kd then kvs.map fun p => .tup [p.1, p.2] else kvs.map (·.1)
def Xf (n : Nat) (st : Sto) : Option Sto := match st[n]? with
 | some (.dcg kvs) => some (st.set n (.dcn kvs))
 | _ => none
def Ez (xs ys : List D) : List D := List.zipWith (fun x y => .tup [x, y]) xs ys
def ft (t1 : List Nat) (o1 : Bool) (t2 : List Nat) (o2 : Bool) (d : D) (env : Env) : Option Env := match d with
 | .tup [x, y] => (store t1 o1 x env).bind fun env1 => store t2 o2 y env1
 | _ => none
def Oc (i : Nat) (tg : List Nat) (one : Bool) (d : D) (env : Env) : Option Env := match d with
 | .tup [.int k, v] => (store [i] true (.int k) env).bind fun env1 => store tg one v env1
 | _ => none
noncomputable def Dn (k : Bool) (st : Sto) : D → Option (List D × Option Nat)
 | .tup ds => if k then some (ds, none) else none
 | .loc n => if k then none else (Am st n).map fun ds => (ds, some n)
 | _ => none
noncomputable def stays (st : Sto) (p : Option Nat) (ds : List D) : Bool := match p with
 | none => true
 | some n => decide (Am st n = some ds)
noncomputable def Gv (lo : Int) (n : Nat) : List D := (List.range n).map fun k => .int (lo + (k : Nat))
noncomputable def fb (ds : List D) : Option (List D) := match ds with
 | [.int j] => if -(2 ^ 62) ≤ j ∧ j < 2 ^ 62 then some (Gv 0 j.toNat) else none
 | [.int i, .int j] => if -(2 ^ 62) ≤ i ∧ i < 2 ^ 62 ∧ -(2 ^ 62) ≤ j ∧ j < 2 ^ 62 then some (Gv i (j - i).toNat) else none
 | _ => none
noncomputable def compLoop (all : List D) (p : Option Nat) (n0 : Nat) (body : D → Sto → Res (Option D)) : List D → Sto → Res Unit
  | [], st => if stays st p all then .ok () st else .bad
  | d :: r, st => if stays st p all then (match body d st with
      | .ok (some y) st' => (match st'[n0]? with
        | some (.lst ys) => if ys.length < sizeLine then compLoop all p n0 body r (st'.set n0 (.lst (ys ++ [y]))) else .bad
        | _ => .bad)
      | .ok none st' => compLoop all p n0 body r st'
      | _ => .bad)
    else .bad
noncomputable def Bi (all : List D) (p : Option Nat) (n0 : Nat) (body : D → Sto → Res (Option (D × D))) : List D → Sto → Res Unit
  | [], st => if stays st p all then .ok () st else .bad
  | d :: r, st => if stays st p all then (match body d st with
      | .ok (some (k, y)) st' => (match st'[n0]? with
        | some (.dct kvs) => if kvs.length < sizeLine ∧ Bs k = true then Bi all p n0 body r (st'.set n0 (.dct (bu kvs k y))) else .bad
        | _ => .bad)
      | .ok none st' => Bi all p n0 body r st'
      | _ => .bad)
    else .bad
def ku (all : List D) (p : Option Nat) (n0 : Nat) (body : D → Sto → Res (Option (D × D))) : List D → Sto → Res Unit
  | [], st => if stays st p all then .ok () st else .bad
  | d :: r, st => if stays st p all then (match body d st with
      | .ok (some (k, y)) st' => (match st'[n0]? with
        | some (.dcn kvs) => if kvs.length < sizeLine ∧ dc k = true then ku all p n0 body r (st'.set n0 (.dcn (bu kvs k y))) else .bad
        | _ => .bad)
      | .ok none st' => ku all p n0 body r st'
      | _ => .bad)
    else .bad
noncomputable def Cp (k : Nat) (st : Sto) (d : D) : Option (List D × Option Nat) := match k, d with
 | 0, .loc n => (Am st n).map fun ds => (ds, some n)
 | 1, .tup ds => some (ds, none)
 | 2, .tup ds => (fb ds).map fun xs => (xs, none)
 | 4, .loc n => (match st[n]? with | some (.dcf kvs) => some (kvs.map (·.1), none) | _ => none)
 | 5, .loc n => (match st[n]? with | some (.dcg kvs) => some (kvs.map (·.1), none) | _ => none)
 | 6, .loc n => (match st[n]? with | some (.dcg kvs) => some (kvs.map fun p => .tup [p.1, p.2], none) | _ => none)
 | 3, .str z => if z.length ≤ sizeLine then some (z.cps.toList.map fun c => .str ⟨#[c]⟩, none) else none
 | _, _ => none
noncomputable def bo (nl : Nat) (fv : List Nat) (env : Env) : Env := List.replicate nl none ++ fv.map (Cd env)
mutual
noncomputable def aa : E → Env → Sto → Res D
  | .var i, env, st => match Cd env i with | some d => .ok d st | none => .bad
  | .cst d, _, st => .ok d st
  | .tupE es, env, st => (As es env st).bind fun ds st => if ds.length ≤ sizeLine then .ok (.tup ds) st else .bad
  | .lstE es, env, st => (As es env st).bind fun ds st => if ds.length ≤ sizeLine then .ok (.loc st.length) (st ++ [.lst ds]) else .bad
  | .op o a b, env, st => (aa a env st).bind fun x st => (aa b env st).bind fun y st => opD o x y st
  | .neg a, env, st => (aa a env st).bind fun x st => match x with | .int i => .ok (.int (-i)) st | _ => .bad
  | .cm c a b, env, st => (aa a env st).bind fun x st => (aa b env st).bind fun y st => cmD c x y st
  | .andE a b, env, st => (aa a env st).bind fun x st => match x with | .bl true => aa b env st | .bl false => .ok (.bl false) st | _ => .bad
  | .orE a b, env, st => (aa a env st).bind fun x st => match x with | .bl true => .ok (.bl true) st | .bl false => aa b env st | _ => .bad
  | .notE a, env, st => (aa a env st).bind fun x st => match x with | .bl b => .ok (.bl (!b)) st | _ => .bad
  | .ifE c a b, env, st => (Aj c env st).bind fun x st => if x then aa a env st else aa b env st
  | .call f es dv, env, st => (As es env st).bind fun ds st => call f (ds ++ dv) st
  | .bt f es, env, st => (As es env st).bind fun ds st => btD f ds st
  | .ix a b, env, st => (aa a env st).bind fun x st => (aa b env st).bind fun y st => ixD x y st
  | .isi a t, env, st => (aa a env st).bind fun x st => match (Et st x).bind fun u => Ey tab u t with | some b => .ok (.bl b) st | none => .bad
  | .dnew, _, st => .ok (.loc st.length) (st ++ [.dct []])
  | .dnewN, _, st => .ok (.loc st.length) (st ++ [.dcn []])
  | .sl k a es, env, st => (aa a env st).bind fun x st => (Dp es env st).bind fun ds st => slD k x ds st
  | .chn c1 c2 a b c, env, st => (aa a env st).bind fun x st => (aa b env st).bind fun y st => (cmD c1 x y st).bind fun z st => match z with | .bl true => (aa c env st).bind fun w st => cmD c2 y w st | .bl false => .ok (.bl false) st | _ => .bad
  | .fld c o f, env, st => (aa o env st).bind fun x st => match x with
      | .loc n => match st[n]? with | some (.ins c' fs) => (match fs.lookup f with | some d => if c' = c then .ok d st else .bad | none => .bad) | _ => .bad
      | _ => .bad
  | .mk c f es, env, st => (As es env st).bind fun ds st => (call f (.loc st.length :: ds) (st ++ [.ins c []])).bind fun r st' => match r with | .non => .ok (.loc st.length) st' | _ => .bad
  | .Ds c f m o es, env, st => (aa o env st).bind fun x st => match x with
      | .loc n => match st[n]? with | some (.ins c' fs) => if c' = c ∧ fs.lookup m = none then (As es env st).bind fun ds st => call f (.loc n :: ds) st else .bad | _ => .bad
      | _ => .bad
  | .callV is f es, env, st => (aa f env st).bind fun x st => match x with
      | .loc n => match st[n]? with | some (.fnc i) => if is.contains i = true then (As es env st).bind fun ds st => call i ds st else .bad | _ => .bad
      | _ => .bad
  | .tabV rows k, env, st => (aa k env st).bind fun x st => match x with
      | .str z => (match rows.lookup z with | some d => .ok d st | none => .bad)
      | _ => .bad
  | .tabIn neg rows k, env, st => (aa k env st).bind fun x st => match x with
      | .str z => .ok (.bl (xor neg (decide (z ∈ rows)))) st
      | _ => .bad
  | .tabF rows k, env, st => (aa k env st).bind fun x st => match x with
      | .str z => (match rows.lookup z with | some i => .ok (.loc st.length) (st ++ [.fnc i]) | none => .bad)
      | _ => .bad
  | .mt m o es, env, st => (aa o env st).bind fun x st => if rdy m st x then (As es env st).bind fun ds st => mtD m x ds st else .bad
  | .dcomp n one nl tg fv it ifs kx vx, env, st => (aa it env st).bind fun d st => match Cp n st d with
      | some (xs, p) => (Bi xs p st.length (fun d st => match store tg one d (bo nl fv env) with
          | some env' => (Bo ifs env' st).bind fun b st => if b then (aa kx env' st).bind fun k st => (aa vx env' st).bind fun y st => .ok (some (k, y)) st else .ok none st
          | none => .bad) xs (st ++ [.dct []])).bind fun _ st' => .ok (.loc st.length) st'
      | none => .bad
  | .dcompN n one nl tg fv it ifs kx vx, env, st => (aa it env st).bind fun d st => match Cp n st d with
      | some (xs, p) => (ku xs p st.length (fun d st => match store tg one d (bo nl fv env) with
          | some env' => (Bo ifs env' st).bind fun b st => if b then (aa kx env' st).bind fun k st => (aa vx env' st).bind fun y st => .ok (some (k, y)) st else .ok none st
          | none => .bad) xs (st ++ [.dcn []])).bind fun _ st' => .ok (.loc st.length) st'
      | none => .bad
  | .comp n one nl tg fv it ifs elt, env, st => (aa it env st).bind fun d st => match Cp n st d with
      | some (xs, p) => (compLoop xs p st.length (fun d st => match store tg one d (bo nl fv env) with
          | some env' => (Bo ifs env' st).bind fun b st => if b then (aa elt env' st).bind fun y st => .ok (some y) st else .ok none st
          | none => .bad) xs (st ++ [.lst []])).bind fun _ st' => .ok (.loc st.length) st'
      | none => .bad
noncomputable def Bo : Es → Env → Sto → Res Bool
 | .nil, _, st => .ok true st
 | .cons c r, env, st => (Aj c env st).bind fun b st => if b then Bo r env st else .ok false st
noncomputable def Dp : Es → Env → Sto → Res (List D)
 | .nil, _, st => .ok [] st
 | .cons e es, env, st => (aa e env st).bind fun d st => match d with | .int _ => (Dp es env st).bind fun ds st => .ok (d :: ds) st | _ => .bad
noncomputable def As : Es → Env → Sto → Res (List D)
 | .nil, _, st => .ok [] st
 | .cons e es, env, st => (aa e env st).bind fun d st => (As es env st).bind fun ds st => .ok (d :: ds) st
noncomputable def Aj : E → Env → Sto → Res Bool
  | .andE a b, env, st => (Aj a env st).bind fun x st => if x then Aj b env st else .ok false st
  | .orE a b, env, st => (Aj a env st).bind fun x st => if x then .ok true st else Aj b env st
  | .notE a, env, st => (Aj a env st).bind fun x st => .ok (!x) st
  | .var i, env, st => match Cd env i with | some d => (match truth st d with | some b => .ok b st | none => .bad) | none => .bad
  | .cst d, env, st => match truth st d with | some b => .ok b st | none => .bad
  | .cm c a b, env, st => (aa a env st).bind fun x st => (aa b env st).bind fun y st => (cmD c x y st).bind fun d st => match d with | .bl b => .ok b st | _ => .bad
  | .call f es dv, env, st => (As es env st).bind fun ds st => (call f (ds ++ dv) st).bind fun d st => match truth st d with | some b => .ok b st | none => .bad
  | .bt f es, env, st => (As es env st).bind fun ds st => (btD f ds st).bind fun d st => match truth st d with | some b => .ok b st | none => .bad
  | .ix a b, env, st => (aa a env st).bind fun x st => (aa b env st).bind fun y st => (ixD x y st).bind fun d st => match truth st d with | some b => .ok b st | none => .bad
  | .mt m o es, env, st => (aa o env st).bind fun x st => if rdy m st x then (As es env st).bind fun ds st => (mtD m x ds st).bind fun d st => match truth st d with | some b => .ok b st | none => .bad else .bad
  | .isi a t, env, st => (aa a env st).bind fun x st => match (Et st x).bind fun u => Ey tab u t with | some b => .ok b st | none => .bad
  | .tabIn neg rows k, env, st => (aa k env st).bind fun x st => match x with
      | .str z => .ok (xor neg (decide (z ∈ rows))) st
      | _ => .bad
  | .chn c1 c2 a b c, env, st => (aa a env st).bind fun x st => (aa b env st).bind fun y st => (cmD c1 x y st).bind fun z st => match z with | .bl true => (aa c env st).bind fun w st => (cmD c2 y w st).bind fun d st => (match d with | .bl b => .ok b st | _ => .bad) | .bl false => .ok false st | _ => .bad
  | _, _, _ => .bad
end
inductive Fl where
 | next (env : Env) | ret (d : D) | brk (env : Env) | cont (env : Env)
noncomputable def forLoop (all : List D) (p : Option Nat) (body : D → Env → Sto → Res Fl) : List D → Env → Sto → Res Fl
  | [], env, st => if stays st p all then .ok (.next env) st else .bad
  | d :: r, env, st => if stays st p all then (body d env st).bind fun f st' => match f with
      | .next env' => forLoop all p body r env' st'
      | .cont env' => forLoop all p body r env' st'
      | .brk env' => .ok (.next env') st'
      | .ret x => .ok (.ret x) st'
    else .bad
def Ce (ok : Sto → Bool) (body : D → Env → Sto → Res Fl) : List D → Env → Sto → Res Fl
  | [], env, st => if ok st then .ok (.next env) st else .bad
  | d :: r, env, st => if ok st then (body d env st).bind fun f st' => match f with
      | .next env' => Ce ok body r env' st'
      | .cont env' => Ce ok body r env' st'
      | .brk env' => .ok (.next env') st'
      | .ret x => .ok (.ret x) st'
    else .bad
noncomputable def whileLoop (test : Env → Sto → Res Bool) (body : Env → Sto → Res Fl) : Nat → Env → Sto → Res Fl
  | 0, _, _ => .bad
  | F + 1, env, st => (test env st).bind fun b st => if b then (body env st).bind fun f st' => match f with
      | .next env' => whileLoop test body F env' st'
      | .cont env' => whileLoop test body F env' st'
      | .brk env' => .ok (.next env') st'
      | .ret x => .ok (.ret x) st'
    else .ok (.next env) st
noncomputable def blank (env : Env) (i : Nat) (d : D) : Env := (List.replicate env.length none).set i (some d)
mutual
noncomputable def Al (F : Nat) : S → Env → Sto → Res Fl
  | .pass, env, st => .ok (.next env) st
  | .set i e, env, st => (aa tab call e env st).bind fun d st => if i < env.length then .ok (.next (env.set i (some d))) st else .bad
  | .unp is e, env, st => (aa tab call e env st).bind fun d st => match store is false d env with | some env' => .ok (.next env') st | none => .bad
  | .unpL is e, env, st => (aa tab call e env st).bind fun d st => match d with
      | .loc n => match Am st n with | some ds => (match Bq is ds env with | some env' => .ok (.next env') st | none => .bad) | none => .bad
      | _ => .bad
  | .par i j a b, env, st => (aa tab call a env st).bind fun x st => (aa tab call b env st).bind fun y st => if i < env.length ∧ j < env.length then .ok (.next ((env.set i (some x)).set j (some y))) st else .bad
  | .aug i o e, env, st => match Cd env i with
      | some (.int x) => (aa tab call e env st).bind fun y st => match y with
        | .int j => (opD o (.int x) (.int j) st).bind fun z st => if i < env.length then .ok (.next (env.set i (some z))) st else .bad
        | _ => .bad
      | _ => .bad
  | .setf c o f e, env, st => (aa tab call e env st).bind fun y st => (aa tab call o env st).bind fun x st => match x with
      | .loc n => match st[n]? with | some (.ins c' fs) => if fs.length < 900 ∧ c' = c then .ok (.next env) (st.set n (.ins c (Cu f y fs))) else .bad | _ => .bad
      | _ => .bad
  | .dput d k v, env, st => (aa tab call v env st).bind fun y st => (aa tab call d env st).bind fun x st => (aa tab call k env st).bind fun kk st => match x with
      | .loc n => match Ba st n with
        | some kvs => if Bs kk = true ∧ kvs.length < sizeLine then .ok (.next env) (st.set n (.dct (bu kvs kk y))) else .bad
        | none => match bh st n with
          | some kvs => if dc kk = true ∧ kvs.length < sizeLine then .ok (.next env) (st.set n (.dcn (bu kvs kk y))) else .bad
          | none => match st[n]?, kk with
            | some (.lst xs), .int i => if 0 ≤ i ∧ i < xs.length then .ok (.next env) (st.set n (.lst (xs.set i.toNat y))) else .bad
            | _, _ => .bad
      | _ => .bad
  | .ifS c a b, env, st => (Aj tab call c env st).bind fun x st => if x then An F a env st else An F b env st
  | .whileS c b, env, st => whileLoop (Aj tab call c) (An F b) F env st
  | .forR tg es b, env, st => (As tab call es env st).bind fun ds st => match fb ds with
      | some xs => forLoop xs none (fun d env st => match store tg true d env with | some env' => An F b env' st | none => .bad) xs env st
      | none => .bad
  | .forS tg one k it b, env, st => (aa tab call it env st).bind fun d st => match Dn k st d with
      | some (xs, p) => forLoop xs p (fun d env st => match store tg one d env with | some env' => An F b env' st | none => .bad) xs env st
      | none => .bad
  | .forE i tg one it b, env, st => (aa tab call it env st).bind fun d st => match Dn false st d with
      | some (xs, p) => forLoop xs p (fun d env st => match Oc i tg one d env with | some env' => An F b env' st | none => .bad) (Ks 0 xs) env st
      | none => .bad
  | .forD kd tg one it b, env, st => (aa tab call it env st).bind fun d st => match d with
      | .loc n => (match bh st n with
        | some kvs => (Ce (fun _ => true) (fun d env st => match store tg one d env with | some env' => An F b env' st | none => .bad) (xf kd kvs) env (st.set n (.dcg kvs))).bind fun f st' => (match f with
          | .next env' => (match Xf n st' with | some st2 => .ok (.next env') st2 | none => .bad)
          | f => .ok f st')
        | none => .bad)
      | _ => .bad
  | .forZT t1 o1 t2 o2 a c b, env, st => (As tab call (.cons a (.cons c .nil)) env st).bind fun ds st => match ds with
      | [.tup xs, .tup ys] => if xs.length ≤ ys.length then Ce (fun _ => true) (fun d env st => match ft t1 o1 t2 o2 d env with | some env' => An F b env' st | none => .bad) (Ez xs ys) env st else .bad
      | _ => .bad
  | .forZ t1 o1 t2 o2 a c b, env, st => (As tab call (.cons a (.cons c .nil)) env st).bind fun ds st => match ds with
      | [.loc n, .loc m] => (match Am st n, Am st m with
        | some xs, some ys => if xs.length ≤ ys.length then Ce (fun st => stays st (some n) xs && stays st (some m) ys) (fun d env st => match ft t1 o1 t2 o2 d env with | some env' => An F b env' st | none => .bad) (Ez xs ys) env st else .bad
        | _, _ => .bad)
      | _ => .bad
  | .ret e, env, st => (aa tab call e env st).bind fun d st => .ok (.ret d) st
  | .retN, _, st => .ok (.ret .non) st
  | .ex e, env, st => (aa tab call e env st).bind fun _ st => .ok (.next env) st
  | .raiseS c, _, st => .exc c st
  | .tryS b c i h, env, st => match An F b env st with
      | .exc k st' => match tab k (.o c) with
        | some true => if i < env.length then (match An F h (blank env i (.loc st'.length)) (st' ++ [.exn k]) with
            | .ok (.next env2) st'' => .ok (.next (env2.set i none)) st''
            | .ok (.ret d) st'' => .ok (.ret d) st''
            | _ => .bad)
          else .bad
        | _ => .bad
      | r => r
noncomputable def An (F : Nat) : Ss → Env → Sto → Res Fl
  | .nil, env, st => .ok (.next env) st
  | .cons s r, env, st => (Al F s env st).bind fun f st => match f with
      | .next env' => An F r env' st
      | f => .ok f st
end
end
structure Fn where
 np : Nat
 nl : Nat
 body : Ss
noncomputable def fin (r : Res Fl) : Res D := r.bind fun f st => match f with
 | .next _ => .ok .non st
 | .ret d => .ok d st
 | _ => .bad
noncomputable def Bw (tab : Nat → Ty → Option Bool) (fns : List Fn) (F : Nat) : Nat → Or
 | 0 => fun _ _ _ => .bad
 | n + 1 => fun f args st => match fns[f]? with
  | some fn => if args.length = fn.np ∧ fn.np ≤ fn.nl then fin (An tab (Bw tab fns F n) F fn.body (args.map some ++ List.replicate (fn.nl - fn.np) none) st) else .bad
  | none => .bad
end DD
namespace DD
open PySem L2
structure CW where
 w : World
 f : Nat → Addr
 fn : Nat → Addr
instance : CoeFun CW (fun _ => Nat → Addr) := ⟨CW.f⟩
section
variable (K : PySem.W.Frag)
mutual
def Rep (rho : List Addr) (H : Hp) : D → V → Prop
 | .non, v => v = .non
 | .bl b, v => v = .bl b
 | .int i, v => v = .int i
 | .str x, v => v = .str x
 | .tup ds, v => ∃ a vs, v = .ref a ∧ SqT K H a vs ∧ RepL rho H ds vs
 | .loc n, v => ∃ a, rho[n]? = some a ∧ v = .ref a
def RepL (rho : List Addr) (H : Hp) : List D → List V → Prop
 | [], vs => vs = []
 | d :: r, vs => ∃ v t, vs = v :: t ∧ Rep rho H d v ∧ RepL rho H r t
end
structure Keep (rho : List Addr) (H : Hp) (rho' : List Addr) (H' : Hp) : Prop where
 ext : ∃ m, rho' = rho ++ m
 tup : ∀ a xs, SqT K H a xs → SqT K H' a xs
 fz : ∀ a o u, H a = some (.frz o u) → H' a = some (.frz o u)
variable {K}
theorem Keep.refl (rho : List Addr) (H : Hp) : Keep K rho H rho H := ⟨⟨[], by simp⟩, fun _ _ h => h, fun _ _ _ h => h⟩
theorem Keep.trans {r1 r2 r3 : List Addr} {H1 H2 H3 : Hp} (a : Keep K r1 H1 r2 H2) (b : Keep K r2 H2 r3 H3) : Keep K r1 H1 r3 H3 := by
 obtain ⟨⟨m, rfl⟩, p, p2⟩ := a
 obtain ⟨⟨k, rfl⟩, q, q2⟩ := b
 exact ⟨⟨m ++ k, by simp⟩, fun a xs h => q a xs (p a xs h), fun a o ws h => q2 a o ws (p2 a o ws h)⟩
theorem Keep.at {r1 r2 : List Addr} {H1 H2 : Hp} (k : Keep K r1 H1 r2 H2) {n : Nat} {a : Addr} (h : r1[n]? = some a) : r2[n]? = some a := by
 obtain ⟨⟨m, rfl⟩, _⟩ := k
 have : n < r1.length := (List.getElem?_eq_some_iff.mp h).1
 rw [List.getElem?_append_left this]; exact h
mutual
theorem Rep.mono {r1 r2 : List Addr} {H1 H2 : Hp} (k : Keep K r1 H1 r2 H2) : ∀ {d : D} {v : V}, Rep K r1 H1 d v → Rep K r2 H2 d v
 | .non, v, h => by simpa [Rep] using h
 | .bl b, v, h => by simpa [Rep] using h
 | .int b, v, h => by simpa [Rep] using h
 | .str b, v, h => by simpa [Rep] using h
 | .tup ds, v, h => by
  simp only [Rep] at h ⊢
  obtain ⟨a, vs, e, q, r⟩ := h
  exact ⟨a, vs, e, k.tup a vs q, RepL.mono k r⟩
 | .loc n, v, h => by
  simp only [Rep] at h ⊢
  obtain ⟨a, e, q⟩ := h
  exact ⟨a, k.at e, q⟩
theorem RepL.mono {r1 r2 : List Addr} {H1 H2 : Hp} (k : Keep K r1 H1 r2 H2) : ∀ {d : List D} {v : List V}, RepL K r1 H1 d v → RepL K r2 H2 d v
 | [], v, h => by simpa [RepL] using h
 | x :: r, v, h => by
  simp only [RepL] at h ⊢
  obtain ⟨y, t, e, p, q⟩ := h
  exact ⟨y, t, e, Rep.mono k p, RepL.mono k q⟩
end
theorem RepL.length {r : List Addr} {H : Hp} : ∀ {ds : List D} {vs : List V}, RepL K r H ds vs → ds.length = vs.length
 | [], vs, h => by simp only [RepL] at h; subst h; rfl
 | x :: t, vs, h => by
  simp only [RepL] at h
  obtain ⟨y, u, rfl, _, q⟩ := h
  simp [RepL.length q]
theorem RepL.get {r : List Addr} {H : Hp} : ∀ {ds : List D} {vs : List V} {i : Nat} {d : D}, RepL K r H ds vs → ds[i]? = some d → ∃ v, vs[i]? = some v ∧ Rep K r H d v
 | [], vs, i, d, h, e => by simp at e
 | x :: t, vs, 0, d, h, e => by
  simp only [RepL] at h
  obtain ⟨y, u, rfl, p, q⟩ := h
  simp at e; subst e
  exact ⟨y, rfl, p⟩
 | x :: t, vs, i + 1, d, h, e => by
  simp only [RepL] at h
  obtain ⟨y, u, rfl, p, q⟩ := h
  simp at e
  obtain ⟨v, e1, e2⟩ := RepL.get q e
  exact ⟨v, by simpa using e1, e2⟩
theorem RepL.append {r : List Addr} {H : Hp} : ∀ {ds es : List D} {vs us : List V}, RepL K r H ds vs → RepL K r H es us → RepL K r H (ds ++ es) (vs ++ us)
 | [], es, vs, us, h, g => by simp only [RepL] at h; subst h; simpa using g
 | x :: t, es, vs, us, h, g => by
  simp only [RepL] at h
  obtain ⟨y, u, rfl, p, q⟩ := h
  show RepL K r H (x :: (t ++ es)) (y :: (u ++ us))
  simp only [RepL]
  exact ⟨y, u ++ us, rfl, p, RepL.append q g⟩
theorem RepL.rep {r : List Addr} {H : Hp} {ds : List D} {vs : List V} (h : RepL K r H ds vs) : ∀ k : Nat, RepL K r H (List.replicate k ds).flatten (List.replicate k vs).flatten
 | 0 => by simp [RepL]
 | k + 1 => by
  rw [List.replicate_succ, List.replicate_succ, List.flatten_cons, List.flatten_cons]
  exact h.append (RepL.rep h k)
theorem Bd.keep {H H' : Hp} (s : Bd H H') (rho : List Addr) : Keep K rho H rho H' := ⟨⟨[], by simp⟩, fun a xs h => by
 rcases h with h | h
 · rcases h with h | ⟨o, h⟩
   · exact .inl (.inl (s _ _ h))
   · exact .inl (.inr ⟨o, s _ _ h⟩)
 · exact .inr h, fun a o ws h => s _ _ h⟩
theorem Fb {H : Hp} {p : Addr} (h : H p = none) (o : HO) : Bd H (upd H p o) := fun b u q => by rw [bj (Gm q h)]; exact q
variable (K) (cls : CW)
def Ku (a : Addr) (c : Value) : Heap → Prop := fun h => ∃ o vs, h.get? a = some o ∧ o.cls = c ∧ o.data = .fields vs
def dy (rho : List Addr) (H : Hp) (fs : List (Str × D)) (ws : List (Str × V)) : Prop := ∀ f, match fs.lookup f, ws.lookup f with
 | some d, some v => Rep K rho H d v
 | none, none => True
 | _, _ => False
def kD : D → Option Key
 | .int i => some (.inl i)
 | .str x => some (.inr x)
 | _ => none
def av (rho : List Addr) (H : Hp) : List (D × D) → List (Key × V) → Prop
 | [], ws => ws = []
 | (k, d) :: r, ws => ∃ k' v t, ws = (k', v) :: t ∧ kD k = some k' ∧ Rep K rho H d v ∧ av rho H r t
def cq (w : World) : Nat → D → Int
 | _, .int i => hashInt i
 | _, .str x => hashStr w x
 | n + 1, .tup ds => reduceHash (Builtin.Tuple.tupleHashOf (ds.map (cq w n)))
 | _, _ => 0
def Ft (w : World) (a : Addr) (xs : List (D × Addr × V)) : Heap → Prop := fun h => (a == sysModules) = false ∧ xs.length ≤ sizeLine ∧ (xs.map (·.1)).Nodup ∧ ∃ o es ep, h.get? a = some o ∧ o.ExactDict ∧ o.data = .dict es ep ∧
 Paired (fun (x : D × Addr × V) (e : DictEntry) => e.hash = cq w 8 x.1 ∧ e.key = .ref x.2.1 ∧ RelV x.2.2 e.val) xs es.toList
def Bu (rho : List Addr) (H : Hp) : List (D × D) → List (D × Addr × V) → Prop
 | [], ws => ws = []
 | (k, d) :: r, ws => ∃ b v t, ws = (k, b, v) :: t ∧ dc k = true ∧ Rep K rho H k (.ref b) ∧ Rep K rho H d v ∧ Bu rho H r t
def xg (H : Hp) (a : Addr) (xs : List V) : Prop := (∃ o, H a = some (.frz o (.lst xs))) ∨
    ∃ (o : Obj) (its : Array Value) (n : Nat), K.lookup a = some o ∧ o.cls = .type "list" ∧ o.dict = none ∧ o.data = .seq its n ∧ its.size ≤ sizeLine ∧ Vals xs its.toList
def trk : Cell → Bool
 | .frz _ => false
 | .fnc _ => false
 | _ => true
def Dy (rho : List Addr) (H : Hp) (a : Addr) : Cell → Prop
 | .lst ds => ∃ vs, H a = some (.lst vs) ∧ RepL K rho H ds vs
 | .frz ds => ∃ vs, xg K H a vs ∧ RepL K rho H ds vs
 | .dct kvs => ∃ ws, H a = some (.dK ws) ∧ av K rho H kvs ws
 | .dcn kvs => ∃ xs, H a = some (.ext (Ft cls.w a xs)) ∧ Bu K rho H kvs xs
 | .dcf kvs => ∃ ws o, H a = some (.frz o (.dK ws)) ∧ av K rho H kvs ws
 | .dcg kvs => ∃ xs o, H a = some (.frz o (.ext (Ft cls.w a xs))) ∧ Bu K rho H kvs xs
 | .fnc i => a = cls.fn i
 | .ins c fs => ∃ dx ws, H a = some (.ins (cls c) dx ws) ∧ ws.length = fs.length ∧ dy K rho H fs ws
 | .exn c => H a = some (.ext (Ku a (.ref (cls c))))
structure StoRep (rho : List Addr) (st : Sto) (H : Hp) : Prop where
 len : rho.length = st.length
 nd : ∀ (n m : Nat) (a : Addr) (c d : Cell), rho[n]? = some a → rho[m]? = some a → st[n]? = some c → st[m]? = some d → trk c = true → trk d = true → n = m
 cells : ∀ (n : Nat) (a : Addr) (c : Cell), rho[n]? = some a → st[n]? = some c → Dy K cls rho H a c
structure EnvRep (rho : List Addr) (H : Hp) (env : Env) (sg : St) : Prop where
 len : env.length = sg.length
 val : ∀ (i : Nat) (d : D), env[i]? = some (some d) → ∃ v, sg[i]? = some (some v) ∧ Rep K rho H d v
variable {K cls}
theorem dy.mono {r1 r2 : List Addr} {H1 H2 : Hp} (k : Keep K r1 H1 r2 H2) {fs : List (Str × D)} {ws : List (Str × V)} (h : dy K r1 H1 fs ws) : dy K r2 H2 fs ws := fun f => by
 have q := h f
 revert q
 cases fs.lookup f <;> cases ws.lookup f <;> intro q <;> first | trivial | exact q.elim | exact Rep.mono k q
theorem av.mono {r1 r2 : List Addr} {H1 H2 : Hp} (k : Keep K r1 H1 r2 H2) : ∀ {kvs : List (D × D)} {ws : List (Key × V)}, av K r1 H1 kvs ws → av K r2 H2 kvs ws
 | [], ws, h => by simpa [av] using h
 | (x, d) :: r, ws, h => by
  simp only [av] at h ⊢
  obtain ⟨k', v, t, e, p, q, w⟩ := h
  exact ⟨k', v, t, e, p, Rep.mono k q, av.mono k w⟩
theorem Bu.mono {r1 r2 : List Addr} {H1 H2 : Hp} (k : Keep K r1 H1 r2 H2) : ∀ {kvs : List (D × D)} {ws : List (D × Addr × V)}, Bu K r1 H1 kvs ws → Bu K r2 H2 kvs ws
 | [], ws, h => by simpa [Bu] using h
 | (x, d) :: r, ws, h => by
  simp only [Bu] at h ⊢
  obtain ⟨b, v, t, e, p, q, u, w⟩ := h
  exact ⟨b, v, t, e, p, Rep.mono k q, Rep.mono k u, Bu.mono k w⟩
theorem Dy.stay {r1 r2 : List Addr} {H1 H2 : Hp} (k : Keep K r1 H1 r2 H2) {a : Addr} {c : Cell} (h : Dy K cls r1 H1 a c) (e : ∀ o, H1 a = some o → H2 a = some o) : Dy K cls r2 H2 a c := by
 cases c with
 | lst ds => obtain ⟨vs, p, q⟩ := h; exact ⟨vs, e _ p, q.mono k⟩
 | frz ds =>
  obtain ⟨vs, p, q⟩ := h
  refine ⟨vs, ?_, q.mono k⟩
  rcases p with ⟨o, p⟩ | p
  · exact .inl ⟨o, e _ p⟩
  · exact .inr p
 | dct kvs => obtain ⟨ws, p, q⟩ := h; exact ⟨ws, e _ p, q.mono k⟩
 | dcn kvs => obtain ⟨ws, p, q⟩ := h; exact ⟨ws, e _ p, q.mono k⟩
 | dcf kvs => obtain ⟨ws, o, p, q⟩ := h; exact ⟨ws, o, e _ p, q.mono k⟩
 | dcg kvs => obtain ⟨ws, o, p, q⟩ := h; exact ⟨ws, o, e _ p, q.mono k⟩
 | fnc i => exact h
 | ins c fs => obtain ⟨dx, ws, p, l, q⟩ := h; exact ⟨dx, ws, e _ p, l, q.mono k⟩
 | exn c => exact e _ h
theorem Dy.some {r : List Addr} {H : Hp} {a : Addr} {c : Cell} (h : Dy K cls r H a c) (t : trk c = true) : ∃ o, H a = some o := by
 cases c with
 | lst ds => obtain ⟨vs, p, q⟩ := h; exact ⟨_, p⟩
 | frz ds => cases t
 | dct kvs => obtain ⟨ws, p, q⟩ := h; exact ⟨_, p⟩
 | dcn kvs => obtain ⟨ws, p, q⟩ := h; exact ⟨_, p⟩
 | dcf kvs => obtain ⟨ws, o, p, q⟩ := h; exact ⟨_, p⟩
 | dcg kvs => obtain ⟨ws, o, p, q⟩ := h; exact ⟨_, p⟩
 | fnc i => cases t
 | ins c fs => obtain ⟨dx, ws, p, q⟩ := h; exact ⟨_, p⟩
 | exn c => exact ⟨_, h⟩
theorem StoRep.same {rho : List Addr} {st : Sto} {H H' : Hp} (s : StoRep K cls rho st H) (e : Bd H H') : StoRep K cls rho st H' :=
 ⟨s.len, s.nd, fun n a c p q => (s.cells n a c p q).stay (Bd.keep e rho) (fun o h => e _ _ h)⟩
theorem EnvRep.mono {r1 r2 : List Addr} {H1 H2 : Hp} (k : Keep K r1 H1 r2 H2) {env : Env} {sg : St} (h : EnvRep K r1 H1 env sg) : EnvRep K r2 H2 env sg :=
 ⟨h.len, fun i d e => let ⟨v, p, q⟩ := h.val i d e; ⟨v, p, q.mono k⟩⟩
theorem EnvRep.set {rho : List Addr} {H : Hp} {env : Env} {sg : St} (h : EnvRep K rho H env sg) (i : Nat) {d : D} {v : V} (r : Rep K rho H d v) : EnvRep K rho H (env.set i (some d)) (sg.set i (some v)) := by
 refine ⟨by simp [h.len], fun j x e => ?_⟩
 rw [List.getElem?_set] at e ⊢
 have hl := h.len
 by_cases ij : i = j
 · subst ij
   rw [if_pos rfl] at e ⊢
   by_cases hi : i < env.length
   · rw [if_pos hi] at e
     rw [if_pos (by omega)]
     cases e
     exact ⟨v, rfl, r⟩
   · rw [if_neg hi] at e; cases e
 · rw [if_neg ij] at e ⊢
   exact h.val j x e
theorem StoRep.laid {rho : List Addr} {st : Sto} {H : Hp} (s : StoRep K cls rho st H) {p : Addr} {o : HO} {c : Cell} (hp : H p = none) (hc : Dy K cls (rho ++ [p]) (upd H p o) p c) :
    Keep K rho H (rho ++ [p]) (upd H p o) ∧ StoRep K cls (rho ++ [p]) (st ++ [c]) (upd H p o) := by
  have e := Fb hp o
  have k : Keep K rho H (rho ++ [p]) (upd H p o) := ⟨⟨[p], rfl⟩, (Bd.keep e rho).tup, (Bd.keep (K := K) e rho).fz⟩
  have old : ∀ (n : Nat) (x : Cell), rho[n]? = some p → st[n]? = some x → trk x = true → False := fun n x h1 h2 ht => by
    obtain ⟨u, hu⟩ := (s.cells n p x h1 h2).some ht
    rw [hp] at hu; cases hu
  have at_lt : ∀ (n : Nat) (a : Addr) (x : Cell), (rho ++ [p])[n]? = some a → (st ++ [c])[n]? = some x → (n < rho.length ∧ rho[n]? = some a ∧ st[n]? = some x) ∨ (n = rho.length ∧ a = p ∧ x = c) := fun n a x h1 h2 => by
    by_cases hn : n < rho.length
    · rw [List.getElem?_append_left hn] at h1
      rw [List.getElem?_append_left (by rw [← s.len]; exact hn)] at h2
      exact .inl ⟨hn, h1, h2⟩
    · have hn' : n = rho.length := by
        have := (List.getElem?_eq_some_iff.mp h1).1
        simp at this; omega
      subst hn'
      rw [List.getElem?_append_right (Nat.le_refl _)] at h1
      rw [s.len, List.getElem?_append_right (Nat.le_refl _)] at h2
      simp at h1 h2
      exact .inr ⟨rfl, h1.symm, h2.symm⟩
  refine ⟨k, by simp [s.len], fun n m a x y h1 h2 h3 h4 t1 t2 => ?_, fun n a x h1 h2 => ?_⟩
  · rcases at_lt n a x h1 h3 with ⟨_, g1, g2⟩ | ⟨e1, e2, e3⟩
    · rcases at_lt m a y h2 h4 with ⟨_, g3, g4⟩ | ⟨f1, f2, f3⟩
      · exact s.nd n m a x y g1 g3 g2 g4 t1 t2
      · subst f2; exact (old n x g1 g2 t1).elim
    · rcases at_lt m a y h2 h4 with ⟨_, g3, g4⟩ | ⟨f1, f2, f3⟩
      · subst e2; exact (old m y g3 g4 t2).elim
      · omega
  · rcases at_lt n a x h1 h2 with ⟨_, g1, g2⟩ | ⟨e1, e2, e3⟩
    · exact (s.cells n a x g1 g2).stay k fun u hu => e _ _ hu
    · subst e2 e3; exact hc
theorem StoRep.alias {rho : List Addr} {st : Sto} {H : Hp} (s : StoRep K cls rho st H) {p : Addr} {c : Cell} (ht : trk c = false) (hc : Dy K cls (rho ++ [p]) H p c) :
    Keep K rho H (rho ++ [p]) H ∧ StoRep K cls (rho ++ [p]) (st ++ [c]) H := by
  have k : Keep K rho H (rho ++ [p]) H := ⟨⟨[p], rfl⟩, fun _ _ h => h, fun _ _ _ h => h⟩
  have at_lt : ∀ (n : Nat) (a : Addr) (x : Cell), (rho ++ [p])[n]? = some a → (st ++ [c])[n]? = some x → (rho[n]? = some a ∧ st[n]? = some x) ∨ (a = p ∧ x = c) := fun n a x h1 h2 => by
    by_cases hn : n < rho.length
    · rw [List.getElem?_append_left hn] at h1
      rw [List.getElem?_append_left (by rw [← s.len]; exact hn)] at h2
      exact .inl ⟨h1, h2⟩
    · have hn' : n = rho.length := by
        have := (List.getElem?_eq_some_iff.mp h1).1
        simp at this; omega
      subst hn'
      rw [List.getElem?_append_right (Nat.le_refl _)] at h1
      rw [s.len, List.getElem?_append_right (Nat.le_refl _)] at h2
      simp at h1 h2
      exact .inr ⟨h1.symm, h2.symm⟩
  refine ⟨k, by simp [s.len], fun n m a x y h1 h2 h3 h4 t1 t2 => ?_, fun n a x h1 h2 => ?_⟩
  · rcases at_lt n a x h1 h3 with ⟨g1, g2⟩ | ⟨_, e3⟩
    · rcases at_lt m a y h2 h4 with ⟨g3, g4⟩ | ⟨_, f3⟩
      · exact s.nd n m a x y g1 g3 g2 g4 t1 t2
      · subst f3; rw [ht] at t2; cases t2
    · subst e3; rw [ht] at t1; cases t1
  · rcases at_lt n a x h1 h2 with ⟨g1, g2⟩ | ⟨e2, e3⟩
    · exact (s.cells n a x g1 g2).stay k fun _ hu => hu
    · subst e2 e3; exact hc
theorem StoRep.wroteC {rho : List Addr} {st : Sto} {H : Hp} (s : StoRep K cls rho st H) {n : Nat} {a : Addr} {o0 o : HO} {c0 c1 : Cell} (ha : rho[n]? = some a) (hl0 : st[n]? = some c0) (ht0 : trk c0 = true) (hH : H a = some o0) (hno : (∀ xs, o0 ≠ .tup xs) ∧ ∀ u x, o0 ≠ .frz u x) (hc : ∀ H2, H2 a = some o → Keep K rho H rho H2 → Dy K cls rho H2 a c1) :
    Keep K rho H rho (upd H a o) ∧ StoRep K cls rho (st.set n c1) (upd H a o) := by
  have k : Keep K rho H rho (upd H a o) := ⟨⟨[], by simp⟩, fun b xs h => by
    rcases h with h | h
    · rcases h with h | ⟨o, h⟩
      · exact .inl (.inl (by rw [bj (il h hH (fun z => hno.1 _ z.symm))]; exact h))
      · exact .inl (.inr ⟨o, by rw [bj (il h hH (fun z => hno.2 _ _ z.symm))]; exact h⟩)
    · exact .inr h, fun b u ws h => by rw [bj (il h hH (fun z => hno.2 _ _ z.symm))]; exact h⟩
  refine ⟨k, by simp [s.len], fun m1 m2 b c d h1 h2 h3 h4 t1 t2 => ?_, fun m b c h1 h2 => ?_⟩
  · have tr : ∀ (m : Nat) (c : Cell), (st.set n c1)[m]? = some c → trk c = true → rho[m]? = some b → ∃ c', st[m]? = some c' ∧ trk c' = true := fun m c h t hr => by
      rw [List.getElem?_set] at h
      by_cases e : n = m
      · subst e
        rw [ha] at hr; cases hr
        exact ⟨_, hl0, ht0⟩
      · rw [if_neg e] at h; exact ⟨c, h, t⟩
    obtain ⟨c1, e1, f1⟩ := tr m1 c h3 t1 h1
    obtain ⟨c2, e2, f2⟩ := tr m2 d h4 t2 h2
    exact s.nd m1 m2 b c1 c2 h1 h2 e1 e2 f1 f2
  rw [List.getElem?_set] at h2
  by_cases e : n = m
  · subst e
    rw [if_pos rfl] at h2
    rw [ha] at h1; cases h1
    by_cases hl : n < st.length
    · rw [if_pos hl] at h2; cases h2
      exact hc _ cj k
    · rw [if_neg hl] at h2; cases h2
  · rw [if_neg e] at h2
    cases ht : trk c with
    | true =>
      have hne : b ≠ a := fun z => by
        subst z
        exact e (s.nd n m b _ c ha h1 hl0 h2 ht0 ht)
      exact (s.cells m b c h1 h2).stay k fun o ho => by rw [bj hne]; exact ho
    | false =>
      cases c with
      | frz xs =>
        obtain ⟨us, p, q⟩ := s.cells m b (.frz xs) h1 h2
        refine ⟨us, ?_, q.mono k⟩
        rcases p with ⟨o, p⟩ | p
        · exact .inl ⟨o, by rw [bj (il p hH (fun z => hno.2 _ _ z.symm))]; exact p⟩
        · exact .inr p
      | fnc i => exact s.cells m b (.fnc i) h1 h2
      | _ => cases ht
theorem StoRep.wrote {rho : List Addr} {st : Sto} {H : Hp} (s : StoRep K cls rho st H) {n : Nat} {a : Addr} {vs ws : List V} {ds ds0 : List D} (ha : rho[n]? = some a) (hl0 : st[n]? = some (.lst ds0)) (hH : H a = some (.lst vs)) (hd : RepL K rho H ds ws) :
    Keep K rho H rho (upd H a (.lst ws)) ∧ StoRep K cls rho (st.set n (.lst ds)) (upd H a (.lst ws)) :=
  s.wroteC ha hl0 rfl hH ⟨fun _ => nofun, fun _ _ => nofun⟩ fun H2 e k => ⟨ws, e, hd.mono k⟩
end
end DD
namespace DD
open PySem PySem.Spec L2
structure G where
 K : PySem.W.Frag
 cls : CW
 tab : Nat → Ty → Option Bool
 call : Or
 xk : XK
variable (g : G)
abbrev G.Rep := DD.Rep g.K
abbrev G.RepL := DD.RepL g.K
abbrev G.Keep := DD.Keep g.K
abbrev G.Sto := DD.StoRep g.K g.cls
abbrev G.Env := DD.EnvRep g.K
def RQ {α : Type} (r : Res α) (ok : α → Sto → Prop) (rho : List Addr) (H : Hp) : Prop := match r with
 | .ok a st => ok a st
 | .exc c st => ∀ H' rho', g.Keep rho H rho' H' → g.Sto rho' st H' → g.xk (.ref (g.cls c)) none H'
 | .bad => False
def Ak (rho : List Addr) (H : Hp) (Q : VK) (d : D) (st : Sto) : Prop := ∀ v H' rho', g.Keep rho H rho' H' → g.Sto rho' st H' → g.Rep rho' H' d v → Q v H'
def Od (rho : List Addr) (H : Hp) (Q : List V → Hp → Prop) (d : List D) (st : Sto) : Prop := ∀ v H' rho', g.Keep rho H rho' H' → g.Sto rho' st H' → g.RepL rho' H' d v → Q v H'
def Cq (rho : List Addr) (H : Hp) (Q : Bool → Hp → Prop) (b : Bool) (st : Sto) : Prop := ∀ H' rho', g.Keep rho H rho' H' → g.Sto rho' st H' → Q b H'
def tE (e : E) : TE := fun sg H Q => ∃ rho st env, g.Sto rho st H ∧ g.Env rho H env sg ∧ RQ g (aa g.tab g.call e env st) (Ak g rho H Q) rho H
def tEs (e : Es) : TA := fun sg H Q => ∃ rho st env, g.Sto rho st H ∧ g.Env rho H env sg ∧ RQ g (As g.tab g.call e env st) (Od g rho H Q) rho H
def tT (e : E) : TT := fun sg H Q => ∃ rho st env, g.Sto rho st H ∧ g.Env rho H env sg ∧ RQ g (Aj g.tab g.call e env st) (Cq g rho H Q) rho H
variable {g}
theorem RQ.bad {α : Type} {ok : α → Sto → Prop} {rho : List Addr} {H : Hp} (h : RQ g (.bad : Res α) ok rho H) : False := h
theorem RQ.mono {α : Type} {r : Res α} {ok ok' : α → Sto → Prop} {rho rho' : List Addr} {H H' : Hp} (k : g.Keep rho H rho' H') (h : RQ g r ok rho H) (ho : ∀ a st, ok a st → ok' a st) : RQ g r ok' rho' H' := by
 cases r with
 | ok a st => exact ho _ _ h
 | exc c st => exact fun H2 r2 k2 s2 => h H2 r2 (k.trans k2) s2
 | bad => exact h
theorem Ak.mono {rho rho' : List Addr} {H H' : Hp} {Q : VK} (k : g.Keep rho H rho' H') {d : D} {st : Sto} (h : Ak g rho H Q d st) : Ak g rho' H' Q d st := fun v H2 r2 k2 => h v H2 r2 (k.trans k2)
theorem Cq.mono {rho rho' : List Addr} {H H' : Hp} {Q : Bool → Hp → Prop} (k : g.Keep rho H rho' H') {d : Bool} {st : Sto} (h : Cq g rho H Q d st) : Cq g rho' H' Q d st := fun H2 r2 k2 => h H2 r2 (k.trans k2)
theorem step {β : Type} {e : E} {env : Env} {sg : St} {st : Sto} {rho : List Addr} {H : Hp} {k : D → Sto → Res β} {ok : β → Sto → Prop} {Q : VK} (s : g.Sto rho st H) (n : g.Env rho H env sg)
    (h : RQ g ((aa g.tab g.call e env st).bind k) ok rho H)
    (hk : ∀ d st1 v H1 rho1, g.Keep rho H rho1 H1 → g.Sto rho1 st1 H1 → g.Env rho1 H1 env sg → g.Rep rho1 H1 d v → RQ g (k d st1) ok rho1 H1 → Q v H1) : tE g e sg H Q := by
  refine ⟨rho, st, env, s, n, ?_⟩
  revert h
  cases aa g.tab g.call e env st with
  | ok d st1 => exact fun h v H1 r1 k1 s1 rp => hk d st1 v H1 r1 k1 s1 (n.mono k1) rp (RQ.mono k1 h fun _ _ x => x)
  | exc c st1 => exact fun h => h
  | bad => exact fun h => h
theorem dq {β : Type} {e : Es} {env : Env} {sg : St} {st : Sto} {rho : List Addr} {H : Hp} {k : List D → Sto → Res β} {ok : β → Sto → Prop} {Q : List V → Hp → Prop} (s : g.Sto rho st H) (n : g.Env rho H env sg)
    (h : RQ g ((As g.tab g.call e env st).bind k) ok rho H)
    (hk : ∀ d st1 v H1 rho1, g.Keep rho H rho1 H1 → g.Sto rho1 st1 H1 → g.Env rho1 H1 env sg → g.RepL rho1 H1 d v → RQ g (k d st1) ok rho1 H1 → Q v H1) : tEs g e sg H Q := by
  refine ⟨rho, st, env, s, n, ?_⟩
  revert h
  cases As g.tab g.call e env st with
  | ok d st1 => exact fun h v H1 r1 k1 s1 rp => hk d st1 v H1 r1 k1 s1 (n.mono k1) rp (RQ.mono k1 h fun _ _ x => x)
  | exc c st1 => exact fun h => h
  | bad => exact fun h => h
theorem stepT {β : Type} {e : E} {env : Env} {sg : St} {st : Sto} {rho : List Addr} {H : Hp} {k : Bool → Sto → Res β} {ok : β → Sto → Prop} {Q : Bool → Hp → Prop} (s : g.Sto rho st H) (n : g.Env rho H env sg)
    (h : RQ g ((Aj g.tab g.call e env st).bind k) ok rho H)
    (hk : ∀ d st1 H1 rho1, g.Keep rho H rho1 H1 → g.Sto rho1 st1 H1 → g.Env rho1 H1 env sg → RQ g (k d st1) ok rho1 H1 → Q d H1) : tT g e sg H Q := by
  refine ⟨rho, st, env, s, n, ?_⟩
  revert h
  cases Aj g.tab g.call e env st with
  | ok d st1 => exact fun h H1 r1 k1 s1 => hk d st1 H1 r1 k1 s1 (n.mono k1) (RQ.mono k1 h fun _ _ x => x)
  | exc c st1 => exact fun h => h
  | bad => exact fun h => h
variable {X : Cx} {a b c : Expr} {a' b' c' : E} {pos : Pos}
def Sd (g : G) (X : Cx) (e : Expr) (e' : E) : Prop := PE X e (tE g e')
def SdT (g : G) (X : Cx) (e : Expr) (e' : E) : Prop := PT X e (tT g e')
def SdL (g : G) (X : Cx) (es : List Expr) (es' : Es) : Prop := PA X es (tEs g es')
theorem Ay {t t' : TE} {e : Expr} (h : PE X e t) (hi : ∀ sg H Q, t' sg H Q → t sg H Q) : PE X e t' := fun pins s sg H Q I q => h pins s sg H Q I (hi _ _ _ q)
theorem dg {t t' : TT} {e : Expr} (h : PT X e t) (hi : ∀ sg H Q, t' sg H Q → t sg H Q) : PT X e t' := fun pins s sg H Q I q => h pins s sg H Q I (hi _ _ _ q)
theorem Oe {t t' : TA} {e : List Expr} (h : PA X e t) (hi : ∀ sg H Q, t' sg H Q → t sg H Q) : PA X e t' := fun pos pins s sg H Q I q => h pos pins s sg H Q I (hi _ _ _ q)
theorem Cf (i : Nat) {x : Str} {pos : Pos} (h : PE X (.Name x pos) (kf i)) : Sd g X (.Name x pos) (.var i) := Ay h fun sg H Q q => by
 obtain ⟨rho, st, env, s, n, q⟩ := q
 simp only [aa] at q
 cases e : Cd env i with
 | none => rw [e] at q; exact q.elim
 | some d =>
  rw [e] at q
  have e' : env[i]? = some (some d) := by
   unfold Cd at e
   cases z : env[i]? with
   | none => rw [z] at e; cases e
   | some o => rw [z] at e; cases o with
    | none => cases e
    | some y => cases e; rfl
  obtain ⟨v, e1, r⟩ := n.val i d e'
  exact ⟨v, e1, q v H rho (.refl _ _) s r⟩
theorem iy {e : Expr} {v : V} {d : D} (h : PE X e (tC v)) (hr : ∀ rho H, g.Rep rho H d v) : Sd g X e (.cst d) := Ay h fun sg H Q q => by
 obtain ⟨rho, st, env, s, n, q⟩ := q
 exact q v H rho (.refl _ _) s (hr _ _)
theorem ae {i j pos} : Sd g X (.Constant (.int i) j pos) (.cst (.int i)) := iy Tn fun _ _ => by simp [Rep]
theorem cn {i j pos} : Sd g X (.Constant (.bool i) j pos) (.cst (.bl i)) := iy To fun _ _ => by simp [Rep]
theorem gw {j pos} : Sd g X (.Constant .none j pos) (.cst .non) := iy Tp fun _ _ => by simp [Rep]
theorem Ah {x j pos} : Sd g X (.Constant (.str x) j pos) (.cst (.str x)) := iy tq fun _ _ => by simp [Rep]
theorem Ad : SdL g X [] .nil := Oe km fun sg H Q q => by
 obtain ⟨rho, st, env, s, n, q⟩ := q
 exact q [] H rho (.refl _ _) s (by simp [RepL])
theorem Aa {e : Expr} {es : List Expr} {e' : E} {es' : Es} (h : Sd g X e e') (t : SdL g X es es') (hs : starEach (e :: es) X.env = (false, eval e X.env) :: starEach es X.env := by rfl) : SdL g X (e :: es) (.cons e' es') :=
 Oe (Hm h t hs) fun sg H Q q => by
  obtain ⟨rho, st, env, s, n, q⟩ := q
  simp only [As] at q
  refine step s n q fun d st1 v H1 r1 k1 s1 n1 rp q1 => ?_
  refine dq s1 n1 q1 fun ds st2 vs H2 r2 k2 s2 n2 rps q2 => ?_
  have q2 : Od g rho H Q (d :: ds) st2 := q2
  exact q2 (v :: vs) H2 r2 (k1.trans k2) s2 (by simp only [RepL]; exact ⟨v, vs, rfl, rp.mono k2, rps⟩)
theorem Ax {es : List Expr} {es' : Es} {x1} (h : SdL g X es es') : Sd g X (.Tuple es x1 pos) (.tupE es') := Ay (vn h) fun sg H Q q => by
 obtain ⟨rho, st, env, s, n, q⟩ := q
 simp only [aa] at q
 refine dq s n q fun ds st1 vs H1 r1 k1 s1 n1 rps q1 => ?_
 have hl := rps.length
 by_cases z : ds.length ≤ sizeLine
 · rw [if_pos z] at q1
   refine ⟨by omega, fun p hp => ?_⟩
   have q1 : Ak g rho H Q (.tup ds) st1 := q1
   have e := Fb hp (.tup vs)
   refine q1 (.ref p) _ r1 (k1.trans (Bd.keep e r1)) (s1.same e) ?_
   simp only [Rep]
   exact ⟨p, vs, rfl, SqT.of cj, rps.mono (Bd.keep e r1)⟩
 · rw [if_neg z] at q1; exact q1.elim
theorem Cv {es : List Expr} {es' : Es} (h : SdL g X es es') : Sd g X (.List es pos) (.lstE es') := Ay (Vn h) fun sg H Q q => by
 obtain ⟨rho, st, env, s, n, q⟩ := q
 simp only [aa] at q
 refine dq s n q fun ds st1 vs H1 r1 k1 s1 n1 rps q1 => ?_
 have hl := rps.length
 by_cases z : ds.length ≤ sizeLine
 · rw [if_pos z] at q1
   refine ⟨by omega, fun p hp => ?_⟩
   have q1 : Ak g rho H Q (.loc st1.length) (st1 ++ [.lst ds]) := q1
   have e := Fb hp (.lst vs)
   have kk : g.Keep r1 H1 (r1 ++ [p]) (upd H1 p (.lst vs)) := ⟨⟨[p], rfl⟩, (Bd.keep e r1).tup, (Bd.keep (K := g.K) e r1).fz⟩
   obtain ⟨k2, s2⟩ := s1.laid hp (o := .lst vs) (c := .lst ds) ⟨vs, cj, rps.mono kk⟩
   refine q1 (.ref p) _ _ (k1.trans k2) s2 ?_
   simp only [Rep]
   exact ⟨p, by rw [← s1.len]; simp, rfl⟩
 · rw [if_neg z] at q1; exact q1.elim
theorem two {o : V → V → Hp → VK → Prop} {k : D → D → Sto → Res D} (hop : ∀ x y u v st rho H Q, g.Sto rho st H → g.Rep rho H x u → g.Rep rho H y v → RQ g (k x y st) (Ak g rho H Q) rho H → o u v H Q)
    {sg : St} {H : Hp} {Q : VK} {rho : List Addr} {st : Sto} {env : Env} (s : g.Sto rho st H) (n : g.Env rho H env sg)
    (q : RQ g ((aa g.tab g.call a' env st).bind fun x st => (aa g.tab g.call b' env st).bind fun y st => k x y st) (Ak g rho H Q) rho H) : tOp o (tE g a') (tE g b') sg H Q := by
  refine step s n q fun x st1 u H1 r1 k1 s1 n1 rp q1 => ?_
  refine step s1 n1 q1 fun y st2 v H2 r2 k2 s2 n2 rp2 q2 => ?_
  exact hop x y u v st2 r2 H2 Q s2 (rp.mono k2) rp2 (RQ.mono (.refl _ _) q2 fun d st p => p.mono (k1.trans k2))
end DD
namespace DD
open PySem PySem.Spec L2
variable {g : G} {X : Cx} {a b c : Expr} {a' b' c' : E} {pos : Pos}
theorem Of {i : Int} (h : i.natAbs < BIG) : Builtin.Int.intBits i ≤ 4000 := by
 unfold Builtin.Int.intBits
 split
 · omega
 · rename_i h0
   have hz : i.natAbs ≠ 0 := by
    intro z; apply h0; simp [Int.natAbs_eq_zero.mp z]
   have : i.natAbs.log2 < 4000 := (Nat.log2_lt hz).mpr h
   omega
theorem Eu.ok {i j : Int} (h : Eu i j) : IntMulOk i j := by
 rcases h with h | h | h
 · exact .of_left (intBits_le_64 h.1 h.2)
 · exact .of_right (intBits_le_64 h.1 h.2)
 · exact IntMulOk.of_bits (Nat.le_trans (Of h.1) (by decide)) (Nat.le_trans (Of h.2) (by decide))
theorem Dx.py {i j : Int} (h : Dx j) : Builtin.divisionGoesByPylong i j = false := by
 refine PyProof.noPylong_of_log2 ?_
 have hz : j.natAbs ≠ 0 := fun z => h.1 (Int.natAbs_eq_zero.mp z)
 have : j.natAbs.log2 < 4000 := (Nat.log2_lt hz).mpr h.2
 omega
theorem Xg : OpR X (binaryOp .Mult) (rI (fun i j => Eu i j) fun i j => .int (i * j)) := opI fun _ _ _ _ _ _ _ hc q => PyProof.Rows.mul_int q hc.ok
theorem xh : OpR X (binaryOp .FloorDiv) (rI (fun _ j => Dx j) fun i j => .int (i.fdiv j)) := opI fun _ _ _ _ _ _ _ hc q => PyProof.Rows.floordiv_int hc.1 q (.inl hc.py)
theorem Aq {rho : List Addr} {H : Hp} {i : Int} {v : V} : g.Rep rho H (.int i) v ↔ v = .int i := by simp [Rep]
theorem az {rho : List Addr} {H : Hp} {i : Bool} {v : V} : g.Rep rho H (.bl i) v ↔ v = .bl i := by simp [Rep]
theorem Cr {rho : List Addr} {H : Hp} {v : V} : g.Rep rho H .non v ↔ v = .non := by simp [Rep]
theorem Bk {rho : List Addr} {H : Hp} {x : Str} {v : V} : g.Rep rho H (.str x) v ↔ v = .str x := by simp [Rep]
theorem bb {rho : List Addr} {H : Hp} {n : Nat} {v : V} : g.Rep rho H (.loc n) v ↔ ∃ a, rho[n]? = some a ∧ v = .ref a := by simp [Rep]
theorem br {rho : List Addr} {H : Hp} {ds : List D} {v : V} : g.Rep rho H (.tup ds) v ↔ ∃ a vs, v = .ref a ∧ SqT g.K H a vs ∧ g.RepL rho H ds vs := by simp [Rep]
theorem fc {rho : List Addr} {st : Sto} {H : Hp} (s : g.Sto rho st H) {n : Nat} {ds : List D} (h : st[n]? = some (.lst ds)) : ∃ a vs, rho[n]? = some a ∧ H a = some (.lst vs) ∧ g.RepL rho H ds vs := by
 have hl : n < rho.length := by rw [s.len]; exact (List.getElem?_eq_some_iff.mp h).1
 obtain ⟨vs, p, q⟩ := s.cells n rho[n] (.lst ds) (List.getElem?_eq_getElem hl) h
 exact ⟨_, vs, List.getElem?_eq_getElem hl, p, q⟩
theorem Dg {rho : List Addr} {st : Sto} {H : Hp} (s : g.Sto rho st H) {n : Nat} {ds : List D} (h : Am st n = some ds) : ∃ a vs, rho[n]? = some a ∧ SqL g.K H a vs ∧ g.RepL rho H ds vs := by
 unfold Am at h
 split at h
 · rename_i xs e
   cases h
   obtain ⟨a, vs, p, q, r⟩ := fc s e
   exact ⟨a, vs, p, SqL.of q, r⟩
 · rename_i xs e
   cases h
   have hl : n < rho.length := by rw [s.len]; exact (List.getElem?_eq_some_iff.mp e).1
   obtain ⟨vs, p, q⟩ := s.cells n rho[n] (.frz ds) (List.getElem?_eq_getElem hl) e
   exact ⟨_, vs, List.getElem?_eq_getElem hl, p.elim (fun ⟨o, p⟩ => .inl (.inr ⟨o, p⟩)) .inr, q⟩
 · cases h
theorem Hq {rho : List Addr} {st : Sto} {H : Hp} (s : g.Sto rho st H) {ds : List D} {vs : List V} (r : g.RepL rho H ds vs) {p : Addr} (hp : H p = none) {Q : VK} (q : Ak g rho H Q (.loc st.length) (st ++ [.lst ds])) : Q (.ref p) (upd H p (.lst vs)) := by
 have e := Fb hp (.lst vs)
 have kk : g.Keep rho H (rho ++ [p]) (upd H p (.lst vs)) := ⟨⟨[p], rfl⟩, (Bd.keep e rho).tup, (Bd.keep (K := g.K) e rho).fz⟩
 obtain ⟨k2, s2⟩ := s.laid hp (o := .lst vs) (c := .lst ds) ⟨vs, cj, r.mono kk⟩
 refine q (.ref p) _ _ k2 s2 (bb.mpr ⟨p, by rw [← s.len]; simp, rfl⟩)
theorem cw (ha : Sd g X a a') (hb : Sd g X b b') : Sd g X (.BinOp a .Add b pos) (.op .add a' b') := Ay (Gq (OpR.or Uv (OpR.or Wk vd)) ha hb) fun sg H Q q => by
 obtain ⟨rho, st, env, s, n, q⟩ := q
 simp only [aa] at q
 refine two (k := opD .add) ?_ s n q
 intro x y u v st rho H Q s rx ry q
 cases x with
 | int i =>
  cases y with
  | int j => exact .inl ⟨i, j, Aq.mp rx, Aq.mp ry, q _ H rho (.refl _ _) s (Aq.mpr rfl)⟩
  | _ => exact q.elim
 | loc i =>
  cases y with
  | loc j =>
   simp only [opD] at q
   split at q
   · rename_i xs ys e1 e2
     split at q
     · rename_i z
       obtain ⟨p1, v1, a1, h1, r1⟩ := fc s e1
       obtain ⟨p2, v2, a2, h2, r2⟩ := fc s e2
       obtain ⟨b1, c1, d1⟩ := bb.mp rx
       obtain ⟨b2, c2, d2⟩ := bb.mp ry
       rw [a1] at c1; cases c1
       rw [a2] at c2; cases c2
       exact .inr (.inl ⟨p1, p2, v1, v2, d1, d2, h1, h2, by rw [← r1.length, ← r2.length]; exact z, fun p hp => Hq s (r1.append r2) hp q⟩)
     · exact q.elim
   · exact q.elim
  | _ => exact q.elim
 | str i =>
  cases y with
  | str j =>
   simp only [opD] at q
   split at q
   · rename_i z
     exact .inr (.inr ⟨i, j, Bk.mp rx, Bk.mp ry, z, q _ H rho (.refl _ _) s (Bk.mpr rfl)⟩)
   · exact q.elim
  | _ => exact q.elim
 | _ => exact q.elim
theorem Cw (ha : Sd g X a a') (hb : Sd g X b b') : Sd g X (.BinOp a .Sub b pos) (.op .sub a' b') := Ay (Gq uw ha hb) fun sg H Q q => by
 obtain ⟨rho, st, env, s, n, q⟩ := q
 simp only [aa] at q
 refine two (k := opD .sub) ?_ s n q
 intro x y u v st rho H Q s rx ry q
 cases x with
 | int i =>
  cases y with
  | int j => exact ⟨i, j, Aq.mp rx, Aq.mp ry, q _ H rho (.refl _ _) s (Aq.mpr rfl)⟩
  | _ => exact q.elim
 | _ => exact q.elim
theorem Hr (hK : X.K = g.K) (ha : Sd g X a a') (hb : Sd g X b b') : Sd g X (.BinOp a .Mult b pos) (.op .mul a' b') := Ay (Gq (OpR.or Xg (OpR.or wm (OpR.or xc Xb))) ha hb) fun sg H Q q => by
 obtain ⟨rho, st, env, s, n, q⟩ := q
 simp only [aa] at q
 refine two (k := opD .mul) ?_ s n q
 intro x y u v st rho H Q s rx ry q
 cases x with
 | int i =>
  cases y with
  | int j =>
   simp only [opD] at q
   split at q
   · rename_i z
     exact .inl ⟨i, j, Aq.mp rx, Aq.mp ry, z, q _ H rho (.refl _ _) s (Aq.mpr rfl)⟩
   · exact q.elim
  | _ => exact q.elim
 | loc i =>
  cases y with
  | int k =>
   simp only [opD] at q
   split at q
   · rename_i xs e1
     split at q
     · rename_i z
       obtain ⟨p1, v1, a1, h1, r1⟩ := fc s e1
       obtain ⟨b1, c1, d1⟩ := bb.mp rx
       rw [a1] at c1; cases c1
       exact .inr (.inl ⟨p1, k, v1, d1, Aq.mp ry, h1, z.1, z.2.1, by rw [← r1.length]; exact z.2.2, fun p hp => Hq s (r1.rep _) hp q⟩)
     · exact q.elim
   · exact q.elim
  | _ => exact q.elim
 | str i =>
  cases y with
  | int k =>
   simp only [opD] at q
   split at q
   · rename_i z
     exact .inr (.inr (.inl ⟨i, k, Bk.mp rx, Aq.mp ry, z.1, z.2.1, z.2.2.1, z.2.2.2, q _ H rho (.refl _ _) s (Bk.mpr rfl)⟩))
   · exact q.elim
  | _ => exact q.elim
 | tup ds =>
  cases y with
  | int k =>
   simp only [opD] at q
   split at q
   · rename_i z
     obtain ⟨a1, vs, d1, h1, r1⟩ := br.mp rx
     have hl := r1.length
     refine .inr (.inr (.inr ⟨a1, k, vs, d1, Aq.mp ry, by rw [hK]; exact h1, z.1, z.2.1, by rw [← hl]; exact z.2.2, fun e => ?_, fun p hp => ?_⟩))
     · refine q _ H rho (.refl _ _) s ?_
       have := r1.rep k.toNat
       rw [e] at this
       exact br.mpr ⟨a1, vs, rfl, h1, this⟩
     · have e := Fb hp (.tup (List.replicate k.toNat vs).flatten)
       refine q (.ref p) _ rho (Bd.keep e rho) (s.same e) ?_
       exact br.mpr ⟨p, _, rfl, SqT.of cj, (r1.rep k.toNat).mono (Bd.keep e rho)⟩
   · exact q.elim
  | _ => exact q.elim
 | _ => exact q.elim
theorem Cn (ha : Sd g X a a') (hb : Sd g X b b') : Sd g X (.BinOp a .FloorDiv b pos) (.op .fdiv a' b') := Ay (Gq xh ha hb) fun sg H Q q => by
 obtain ⟨rho, st, env, s, n, q⟩ := q
 simp only [aa] at q
 refine two (k := opD .fdiv) ?_ s n q
 intro x y u v st rho H Q s rx ry q
 cases x with
 | int i =>
  cases y with
  | int j =>
   simp only [opD] at q
   split at q
   · rename_i z
     exact ⟨i, j, Aq.mp rx, Aq.mp ry, z, q _ H rho (.refl _ _) s (Aq.mpr rfl)⟩
   · exact q.elim
  | _ => exact q.elim
 | _ => exact q.elim
theorem bx (ha : Sd g X a a') (hb : Sd g X b b') : Sd g X (.BinOp a .Mod b pos) (.op .mod a' b') := Ay (Gq Uw ha hb) fun sg H Q q => by
 obtain ⟨rho, st, env, s, n, q⟩ := q
 simp only [aa] at q
 refine two (k := opD .mod) ?_ s n q
 intro x y u v st rho H Q s rx ry q
 cases x with
 | int i =>
  cases y with
  | int j =>
   simp only [opD] at q
   split at q
   · rename_i z
     exact ⟨i, j, Aq.mp rx, Aq.mp ry, z, q _ H rho (.refl _ _) s (Aq.mpr rfl)⟩
   · exact q.elim
  | _ => exact q.elim
 | _ => exact q.elim
theorem og (ha : Sd g X a a') (hb : Sd g X b b') : Sd g X (.BinOp a .Pow b pos) (.op .pow a' b') := Ay (Gq ux ha hb) fun sg H Q q => by
 obtain ⟨rho, st, env, s, n, q⟩ := q
 simp only [aa] at q
 refine two (k := opD .pow) ?_ s n q
 intro x y u v st rho H Q s rx ry q
 cases x with
 | int i =>
  cases y with
  | int j =>
   simp only [opD] at q
   split at q
   · rename_i z
     exact ⟨i, j, Aq.mp rx, Aq.mp ry, z, q _ H rho (.refl _ _) s (Aq.mpr rfl)⟩
   · exact q.elim
  | _ => exact q.elim
 | _ => exact q.elim
theorem Xh (ha : Sd g X a a') : Sd g X (.UnaryOp .USub a pos) (.neg a') := Ay (Uu Ux ha) fun sg H Q q => by
 obtain ⟨rho, st, env, s, n, q⟩ := q
 simp only [aa] at q
 refine step s n q fun x st1 u H1 r1 k1 s1 n1 rp q1 => ?_
 cases x with
 | int i => exact ⟨i, Aq.mp rp, (show Ak g rho H Q (.int (-i)) st1 from q1) _ H1 r1 k1 s1 (Aq.mpr rfl)⟩
 | _ => exact q1.elim
end DD
namespace DD
open PySem PySem.Spec L2
open PyProof.Rows hiding St
structure Flew (P : Program) (w : World) (outer : List PySem.Env) (H : Hp) (s : Shared) (C a t : Addr) (H' : Hp) (B : Heap) (s' : Shared) : Prop where
 os : s'.os = s.os
 bare : AllBare s'.gens
 fly : Heap.FlyingW B outer a (.ref C) (.ref t) s'.heap
 keep : ∀ b o, s.heap.get? b = some o → H b = none → b ∉ frs outer → B.get? b = some o
 there : ∀ b o, s.heap.get? b = some o → b ∉ frs outer → ∃ o', B.get? b = some o'
 free : ∀ b o, s.heap.get? b = some o → H b = none → H' b = none
 slot : ∀ b o, s.heap.get? b = some o → H b = none → b ∈ frs outer → ∃ sl, s'.heap.get? b = some { o with slots := sl }
 tups : ∀ b xs, H b = some (.tup xs) → H' b = some (.tup xs)
 frzs : ∀ b o u, H b = some (.frz o u) → H' b = some (.frz o u)
 tbls : ∀ b ps, H b = some (.tbl ps) → ∃ more, H' b = some (.tbl (ps ++ more))
 hok : HOk P w H' B
def CXd (P : Program) (w : World) : CXT := fun outer H s E e s' => ∃ (C a t : Addr) (H' : Hp) (B : Heap), e = .ref a ∧ Flew P w outer H s C a t H' B s' ∧ E (.ref C) none H'
theorem xi {env : PySem.Env} {L : Addr} (h : env.frame = some L) (outer : List PySem.Env) : frs (env :: outer) = L :: frs outer := by
 unfold frs; rw [List.filterMap_cons, h]
section
variable {P : Program} {w : World} {K : PySem.W.Frag} {mg : Str → Option Value} {base : Heap} {N : List Str} {qual : Str} {scope : Scope} {f : Addr} {cd : Value} {A : Around} {outer : List PySem.Env} {s : Shared} {H : Hp} {E : XK}
theorem aj : Passes (CXd P w) (dw (CXd P w) P w K mg base N qual scope f cd A outer s H E) E := by
 intro pins sg H1 s1 e s2 I h
 obtain ⟨C, a, t, H', B, rfl, F, q⟩ := h
 have hf : (envOfC qual scope s.heap.objs.size f cd).frame = some s.heap.objs.size := rfl
 have hstk : (dw (CXd P w) P w K mg base N qual scope f cd A outer s H E).stack = envOfC qual scope s.heap.objs.size f cd :: outer := rfl
 have hfr := xi hf outer
 rw [hstk] at F
 have hb : ∀ b o, s.heap.get? b = some o → b ∉ frs outer → b ∉ frs (envOfC qual scope s.heap.objs.size f cd :: outer) := fun b o e hn => by
  rw [hfr]
  intro m
  rcases List.mem_cons.mp m with z | z
  · have := Heap.lt_size e; rw [z] at this; exact Nat.lt_irrefl _ this
  · exact hn z
 have up : ∀ b o, s.heap.get? b = some o → ∃ o', s1.heap.get? b = some o' := fun b o e => I.base.there b o e (by intro z; cases z)
 show wpAny (model P w) (A.deeper (envOfC qual scope s.heap.objs.size f cd)) (leaving (envOfC qual scope s.heap.objs.size f cd) (.ref a)) (fun _ s'' => CXd P w outer H s E (.ref a) s'') (fun e' s'' => CXd P w outer H s E e' s'') s2
 refine wpAny_leaves_onW (I.ok.frames) hf F.fly fun h' fl us => ?_
 refine ⟨C, a, t, H', B, rfl, ⟨F.os.trans I.os, F.bare, fl, fun b o e n hn => ?_, fun b o e hn => ?_, fun b o e n => ?_, fun b o e n hm => ?_, fun b xs e => F.tups _ _ (I.base.tups _ _ e), fun b o u e => F.frzs _ _ _ (I.base.frzs _ _ _ e), fun b ps e => ?_, F.hok⟩, q⟩
 · exact F.keep b o (I.base.keep b o e n hn (by intro z; cases z)) (I.base.free b o e n (by intro z; cases z)) (hb b o e hn)
 · obtain ⟨o', e'⟩ := up b o e
   exact F.there b o' e' (hb b o e hn)
 · obtain ⟨o', e'⟩ := up b o e
   exact F.free b o' e' (I.base.free b o e n (by intro z; cases z))
 · obtain ⟨sl, e1⟩ := I.base.slot b o e n hm (by intro z; cases z)
   have n1 := I.base.free b o e n (by intro z; cases z)
   obtain ⟨sl2, e2⟩ := F.slot b _ e1 n1 (by rw [hfr]; exact List.mem_cons_of_mem _ hm)
   have nf : ∀ vs, o.data ≠ .fields vs := by
    obtain ⟨_, o2, ho2, hd2⟩ := I.ok.funs.mem hm
    have : s.heap.get? b = some o2 := ho2
    rw [e] at this; cases this; exact hd2
   obtain ⟨sl3, e3⟩ := us b _ e2 nf
   exact ⟨sl3, e3⟩
 · obtain ⟨m1, e1⟩ := I.base.tbls b ps e
   obtain ⟨m2, e2⟩ := F.tbls b _ e1
   exact ⟨m1 ++ m2, by rw [e2, Array.append_assoc]⟩
end
end DD
namespace DD
open PySem PySem.Spec L2
open PyProof.Rows hiding St
abbrev Cx.hd (X : Cx) (a : Addr) : Cx := { X with A := X.A.mark (some (.ref a)), calm := false, xe := fun _ _ => False }
end DD
namespace DD
open PySem PySem.Spec L2
open PyProof.Rows hiding St
abbrev Cx.tr (X : Cx) (pn : List (Addr × Obj)) (xe : Value → Shared → Prop) : Cx := { X with pn := pn, xe := xe }
theorem Xi {X : Cx} {pins : List (Addr × Obj)} {sg : L2.St} {H : Hp} {s : Shared} {xe : Value → Shared → Prop} (I : L2.Inv X pins sg H s) : L2.Inv (Cx.tr X (X.pn ++ pins) xe) [] sg H s :=
 ⟨⟨I.ok.mod, I.ok.kind, I.ok.glob, I.ok.blt, I.ok.above, I.ok.inj, I.ok.has, I.ok.cab, I.ok.hd, I.ok.frames, I.ok.stk, I.ok.exf, I.ok.bs, I.ok.bsz, I.ok.noex, I.ok.exfs, I.ok.funs, I.ok.frf⟩, I.os, I.bare, I.base, I.loc, I.cell, I.free, I.freeC, fun p hp => I.pin p (by rw [List.append_nil] at hp; exact hp), I.hok, I.len⟩
theorem Iy {X : Cx} {pins pins' : List (Addr × Obj)} {sg : L2.St} {H : Hp} {s : Shared} {xe : Value → Shared → Prop} (I : L2.Inv (Cx.tr X (X.pn ++ pins) xe) pins' sg H s) : L2.Inv X pins sg H s :=
 ⟨⟨I.ok.mod, I.ok.kind, I.ok.glob, I.ok.blt, I.ok.above, I.ok.inj, I.ok.has, I.ok.cab, I.ok.hd, I.ok.frames, I.ok.stk, I.ok.exf, I.ok.bs, I.ok.bsz, I.ok.noex, I.ok.exfs, I.ok.funs, I.ok.frf⟩, I.os, I.bare, I.base, I.loc, I.cell, I.free, I.freeC, fun p hp => I.pin p (List.mem_append_left _ hp), I.hok, I.len⟩
end DD
namespace DD
open PySem PySem.Spec PySem.W PySem.Calls PyProof.Rows Builtin Builtin.ObjectAttr Builtin.Getset_descriptor
structure ExcC (K : Frag) (C : Addr) : Prop where
 cl : (clsIn K C).isSome = true
 ga : findIn K (.ref C) "__getattribute__" = some (some (.builtin "BaseException.__getattribute__"))
 gn : findIn K (.ref C) "__getattr__" = some none
 ha : findIn K (.ref C) "__class__" = some (some (.builtin "object.__class__"))
 hn : specialIn K (.builtin "object.__class__") "__get__" = some (some (.builtin "getset_descriptor.__get__"))
 tk : takesIn K (.builtin "object.__class__") = some true
 ob : mroIn K C (.type "object") = some true
 be : mroIn K C (.type "BaseException") = some true
section
variable {prog : Program} {w : World} {A : Around} {E : Value → Shared → Prop} {s : Shared} {K : Frag} {x C : Addr}
theorem xj {R : Result → Shared → Prop} {tp : Value} (X : K.In s.heap) (L0 : Looks (model prog w) s.heap (typeOf (.ref x)) (.ref C)) (hm : mroIn K C (.type "object") = some true)
    (h : R (.ok (.ret (.ref C))) s) : codeAny (model prog w) A (.call (.builtin "getset_descriptor.__get__") ⟨[.builtin "object.__class__", .ref x, tp], []⟩) R s := by
  obtain ⟨hh, g, dr, t, os⟩ := s
  have L1 := looks_mroIn (M := model prog w) X hm
  refine codeAny_call_builtin KF.slot_gs.plain KF.entry_gs (KF.slot_gs.check _ _ _ _ _ _ _ _ KF.type_class (KF.args_gs _ _ _) ?_)
  unfold Builtin.«getset_descriptor.__get__» descrGet
  rw [dga_obj]
  refine wpAny_bind (wpAny_pure ?_)
  unfold descrGetter descrCheckInstance descrNameAndClass isInstance
  simp only [KF.owner_class]
  repeat lk
  refine ⟨Code.quiet_builtin _ (by decide +kernel), codeAny_builtin KF.entry_class ?_⟩
  unfold Builtin.«object.__class__» shownTypeOf
  repeat lk
  exact h
theorem Xj (X : K.In s.heap) (ec : ExcC K C) {M : Model} : Looks M s.heap (Builtin.ObjectAttr.find (.ref x) (.ref C) "__class__") (.bind (.builtin "getset_descriptor.__get__") (.builtin "object.__class__")) := by
 have L1 := looks_findIn (M := M) X ec.ha
 have L2 : Looks M s.heap (Builtin.ObjectAttr.getOf (some (.builtin "object.__class__"))) (some (.builtin "getset_descriptor.__get__")) := looks_specialIn X ec.hn
 have L3 := looks_takesIn (M := M) X ec.tk
 refine L1.andThen (L2.andThen ?_)
 exact (show Looks M s.heap (Builtin.ObjectAttr.dataDescriptor? (some (.builtin "object.__class__")) (some (.builtin "getset_descriptor.__get__"))) (some (.builtin "getset_descriptor.__get__", .builtin "object.__class__")) from L3.andThen .now).andThen (Looks.tag .now)
theorem Xk {tk : Tok} {Q : Fin → Shared → Prop} (X : K.In s.heap) (ec : ExcC K C) (L0 : Looks (model prog w) s.heap (typeOf (.ref x)) (.ref C)) (hq : Q (.done (.ret (.ref C))) s) :
    wpAny (model prog w) A (Builtin.«object.__getattribute__» ⟨[.ref x, .str "__class__" tk], []⟩) Q E s := by
  have LF := Xj (x := x) X ec (M := model prog w)
  have hc := xj (A := A) (tp := .ref C) (R := fun r s' => match r with | .ok (.ret v) => v = .ref C ∧ s' = s | _ => False) X L0 ec.ob ⟨rfl, rfl⟩
  obtain ⟨hh, g, dr, t, os⟩ := s
  unfold Builtin.«object.__getattribute__»
  repeat (first | (with_reducible refine wpAny_call (codeAny_mono hc fun r s' hr => ?_)) | lk)
  cases r with
  | error e => exact hr.elim
  | ok f =>
    cases f with
    | ret v => obtain ⟨rfl, rfl⟩ := hr; exact wpAny_pure hq
    | _ => exact hr.elim
theorem xl {tk : Tok} {Q : Unit → Shared → Prop} (X : K.In s.heap) (ec : ExcC K C) (L0 : Looks (model prog w) s.heap (typeOf (.ref x)) (.ref C)) (hq : Q () s) :
    wpAny (model prog w) A (checkBuiltinCall "BaseException.__getattribute__" ⟨[.ref x, .str "__class__" tk], []⟩) Q E s := by
  have hk : builtinKind "BaseException.__getattribute__" = some .slot := by decide +kernel
  have hsplit : splitId "BaseException.__getattribute__" = some ("BaseException", "__getattribute__") := by decide +kernel
  have ha := F.args_bexc_ga (.ref x) (.str "__class__" tk)
  have L1 := looks_mroIn (M := model prog w) X ec.be
  obtain ⟨hh, g, dr, t, os⟩ := s
  simp only [checkBuiltinCall, hk, hsplit]
  refine wpAny_bind ?_
  unfold isInstance
  repeat (first | lk | wp_step)
  exact hq
theorem Xl {tk : Tok} {R : Result → Shared → Prop} (X : K.In s.heap) (ec : ExcC K C) (L0 : Looks (model prog w) s.heap (typeOf (.ref x)) (.ref C)) (hq : R (.ok (.ret (.ref C))) s) :
    codeAny (model prog w) A (.call (.builtin "BaseException.__getattribute__") ⟨[.ref x, .str "__class__" tk], []⟩) R s :=
  codeAny_call_builtin (by decide +kernel) F.entry_bexc_ga (xl X ec L0 (Xk X ec L0 hq))
theorem Xm {Q : Option Value → Shared → Prop} (X : K.In s.heap) (ec : ExcC K C) (L0 : Looks (model prog w) s.heap (typeOf (.ref x)) (.ref C)) (hq : Q (some (.ref C)) { s with toks := s.toks + 1 }) :
    wpAny (model prog w) A (getAttr? (.ref x) "__class__") Q E s := by
  have hx2 : (Value.builtin "BaseException.__getattribute__" == Value.builtin "object.__getattribute__") = false := by decide +kernel
  have L1 := looks_findIn (M := model prog w) X ec.ga
  have L2 := looks_findIn (M := model prog w) X ec.gn
  have hc := Xl (s := { s with toks := s.toks + 1 }) (A := A) (tk := s.toks) (R := fun r s' => match r with | .ok (.ret v) => v = .ref C ∧ s' = { s with toks := s.toks + 1 } | _ => False) X ec L0 ⟨rfl, rfl⟩
  obtain ⟨hh, g, d, t, os⟩ := s
  unfold getAttr? getAttrBy? getAttrBy
  refine wpAny_bind (wpAny_mkText (wpAny_bind (wpAny_attempt (wpAny_holding (wpAny_bind (L0.at (wpAny_bind (L1.at ?_))))))))
  dsimp only
  rw [hx2, Bool.and_false, if_neg Bool.false_ne_true]
  have hb : bindSpecial (.builtin "BaseException.__getattribute__") (.ref x) = pure (.builtin "BaseException.__getattribute__", [.ref x]) := by
    have hop : withoutEnding? "BaseException.__getattribute__" "#opaque" = none := by decide +kernel
    have hdat : withoutEnding? "BaseException.__getattribute__" "#data" = none := by decide +kernel
    have hkd : builtinKind "BaseException.__getattribute__" = some .slot := by decide +kernel
    simp only [bindSpecial, typeOf, builtinType, hop, hdat, hkd]; rfl
  unfold getAttrByItsOwn hookBefore callGetattribute boundAndCalled
  rw [show onTheHeap (.ref C) = true from rfl, if_pos rfl]
  refine wpAny_bind (L2.at ?_)
  refine wpAny_bind (wpAny_attempt (wpAny_holding ?_))
  rw [if_neg (by simp)]
  refine wpAny_bind (wpAny_of_eq hb ?_)
  show wpAny (model prog w) A (call (.builtin "BaseException.__getattribute__") [.ref x, .str "__class__" t]) _ _ _
  refine wpAny_call (codeAny_mono hc fun r s' hr => ?_)
  cases r with
  | error e => exact hr.elim
  | ok f =>
    cases f with
    | ret v =>
      obtain ⟨rfl, rfl⟩ := hr
      exact wpAny_of_eq (handedOut_of rfl) (wpAny_pure hq)
    | _ => exact hr.elim
theorem xn (ec : ExcC K C) : KitX K (.ref x) (.ref C) (fun h => ∃ o, h.get? x = some o ∧ o.cls = .ref C) where
 ty := fun M h _ ⟨o, e, hc⟩ => hc ▸ (Looks.ld e).andThen .now
 it := fun _ _ X _ => by
  obtain ⟨cd, hcd⟩ := Option.isSome_iff_exists.mp ec.cl
  unfold clsIn at hcd
  split at hcd
  · rename_i c' d' cd' sl' ho
    intro A' Q' E' s' k q
    unfold isType loadHead
    exact wpAny_bind (wpAny_loadPart (k _ _ (X _ _ ho)) (wpAny_pure q))
  · cases hcd
 ne := fun h tp dd its n sl X htp => by
  obtain ⟨cd, hcd⟩ := Option.isSome_iff_exists.mp ec.cl
  refine Bool.eq_false_iff.mpr fun q => ?_
  have e : C = tp := Value.ref.inj (beq_iff_eq.mp q)
  subst e
  unfold clsIn at hcd
  split at hcd
  · rename_i ho
    have := X _ _ ho
    rw [htp] at this
    cases this
  · cases hcd
 ca := fun X ⟨o, e, hc⟩ hq => Xm X ec (hc ▸ (Looks.ld e).andThen .now) hq
end
end DD
namespace DD
open PySem PySem.Spec L2
variable {g : G} {X : Cx} {a b c : Expr} {a' b' c' : E} {pos : Pos}
theorem Kv {H : Hp} {s : Shared} {rho : List Addr} {f : D → Option PyData}
    (hf : ∀ (d : D) (v : V) (u : Value) (p : PyData), g.Rep rho H d v → RelV v u → f d = some p → ∃ as, Reads s.heap u p as) :
    ∀ {ds : List D} {vs : List V} {us : List Value} {ps : List PyData}, g.RepL rho H ds vs → Vals vs us → Bn (ds.map f) = some ps → ∃ as, ReadsAll s.heap us ps as
  | [], vs, us, ps, r, rv, e => by
    simp only [RepL] at r; subst r
    cases rv
    simp [Bn] at e; subst e
    exact ⟨[], .nil⟩
  | d :: t, vs, us, ps, r, rv, e => by
    simp only [RepL] at r
    obtain ⟨v, w, rfl, r1, r2⟩ := r
    cases rv with
    | cons q1 q2 =>
      simp only [List.map_cons] at e
      cases ed : f d with
      | none => rw [ed] at e; simp [Bn] at e
      | some p =>
        rw [ed] at e
        simp only [Bn] at e
        cases et : Bn (t.map f) with
        | none => rw [et] at e; cases e
        | some ps' =>
          rw [et] at e; cases e
          obtain ⟨as, h1⟩ := hf _ _ _ _ r1 q1 ed
          obtain ⟨bs, h2⟩ := Kv hf r2 q2 et
          exact ⟨as ++ bs, .cons h1 h2⟩
theorem reads {pins : List (Addr × Obj)} {sg : L2.St} {H : Hp} {s : Shared} {rho : List Addr} {st : Sto} (hK : X.K = g.K) (I : Inv X pins sg H s) (S : g.Sto rho st H) :
    ∀ (n : Nat) (d : D) (v : V) (u : Value) (p : PyData), g.Rep rho H d v → RelV v u → Ap st n d = some p → ∃ as, Reads s.heap u p as := by
  intro n
  induction n with
  | zero =>
    intro d v u p r rv e
    cases d with
    | non => cases Cr.mp r; simp [Ap] at e; subst e; cases rv; exact ⟨_, .none⟩
    | bl b => cases az.mp r; simp [Ap] at e; subst e; cases rv; exact ⟨_, .bool b⟩
    | int i => cases Aq.mp r; simp [Ap] at e; subst e; obtain ⟨t, rfl⟩ := rv; exact ⟨_, .int i t⟩
    | str x => cases Bk.mp r; simp [Ap] at e; obtain ⟨_, rfl⟩ := e; obtain ⟨t, rfl⟩ := rv; exact ⟨_, .str x t⟩
    | tup ds => simp [Ap] at e
    | loc m => simp [Ap] at e
  | succ n ih =>
    intro d v u p r rv e
    cases d with
    | non => cases Cr.mp r; simp [Ap] at e; subst e; cases rv; exact ⟨_, .none⟩
    | bl b => cases az.mp r; simp [Ap] at e; subst e; cases rv; exact ⟨_, .bool b⟩
    | int i => cases Aq.mp r; simp [Ap] at e; subst e; obtain ⟨t, rfl⟩ := rv; exact ⟨_, .int i t⟩
    | str x => cases Bk.mp r; simp [Ap] at e; obtain ⟨_, rfl⟩ := e; obtain ⟨t, rfl⟩ := rv; exact ⟨_, .str x t⟩
    | tup ds =>
      obtain ⟨a, vs, rfl, q, rl⟩ := br.mp r
      simp only [Ap] at e
      cases eo : Bn (ds.map (Ap st n)) with
      | none => rw [eo] at e; cases e
      | some ps =>
        rw [eo] at e; cases e
        rw [← hK] at q
        obtain ⟨its, rvs, ⟨o, ho, hc, n', hd⟩, _⟩ := I.tuple q
        obtain ⟨as, h2⟩ := Kv ih rl rvs eo
        cases rv
        exact ⟨as, .tuple ho hc hd (by simpa using h2)⟩
    | loc m =>
      simp only [Ap] at e
      cases el : Am st m with
      | none => rw [el] at e; cases e
      | some ds =>
        rw [el] at e
        simp only [Option.bind_some] at e
        cases eo : Bn (ds.map (Ap st n)) with
        | none => rw [eo] at e; cases e
        | some ps =>
          rw [eo] at e; cases e
          obtain ⟨a, vs, hr, q, rl⟩ := Dg S el
          obtain ⟨a2, h1, h2⟩ := bb.mp r
          rw [hr] at h1; cases h1
          subst h2
          rw [← hK] at q
          obtain ⟨its, rvs, ⟨o, n', ho, hc, _, hd⟩, _⟩ := I.list q
          obtain ⟨as, h3⟩ := Kv ih rl rvs eo
          cases rv
          exact ⟨a :: as, .list ho hc hd (by simpa using h3)⟩
theorem iz {st : Sto} : ∀ (n : Nat) (d : D) (p : PyData), Ap st n d = some p → p.canLay0 = true ∧ p.depth ≤ n := by
 have all : ∀ (n : Nat), (∀ (d : D) (p : PyData), Ap st n d = some p → p.canLay0 = true ∧ p.depth ≤ n) → ∀ (ds : List D) (ps : List PyData), Bn (ds.map (Ap st n)) = some ps → PyData.canLayAll0 ps = true ∧ PyData.depthAll ps ≤ n := by
  intro n ih ds
  induction ds with
  | nil => intro ps e; simp [Bn] at e; subst e; exact ⟨rfl, Nat.zero_le _⟩
  | cons d t ih2 =>
   intro ps e
   simp only [List.map_cons] at e
   cases ed : Ap st n d with
   | none => rw [ed] at e; simp [Bn] at e
   | some p =>
    rw [ed] at e
    simp only [Bn] at e
    cases et : Bn (t.map (Ap st n)) with
    | none => rw [et] at e; cases e
    | some ps' =>
     rw [et] at e; cases e
     obtain ⟨h1, h2⟩ := ih _ _ ed
     obtain ⟨h3, h4⟩ := ih2 _ et
     exact ⟨by simp only [PyData.canLayAll0, h1, h3, Bool.and_self], by simp only [PyData.depthAll]; exact Nat.max_le.mpr ⟨h2, h4⟩⟩
 intro n
 induction n with
 | zero =>
  intro d p e
  cases d <;> simp [Ap] at e <;> first | (subst e; exact ⟨rfl, Nat.zero_le _⟩) | (obtain ⟨h, rfl⟩ := e; exact ⟨h, Nat.zero_le _⟩)
 | succ n ih =>
  intro d p e
  cases d with
  | non => simp [Ap] at e; subst e; exact ⟨rfl, Nat.zero_le _⟩
  | bl b => simp [Ap] at e; subst e; exact ⟨rfl, Nat.zero_le _⟩
  | int i => simp [Ap] at e; subst e; exact ⟨rfl, Nat.zero_le _⟩
  | str x => simp [Ap] at e; obtain ⟨h, rfl⟩ := e; exact ⟨h, Nat.zero_le _⟩
  | tup ds =>
   simp only [Ap] at e
   cases eo : Bn (ds.map (Ap st n)) with
   | none => rw [eo] at e; cases e
   | some ps =>
    rw [eo] at e; cases e
    obtain ⟨h1, h2⟩ := all n ih _ _ eo
    exact ⟨h1, by simp only [PyData.depth]; omega⟩
  | loc m =>
   simp only [Ap] at e
   cases el : Am st m with
   | none => rw [el] at e; cases e
   | some ds =>
    rw [el] at e
    simp only [Option.bind_some] at e
    cases eo : Bn (ds.map (Ap st n)) with
    | none => rw [eo] at e; cases e
    | some ps =>
     rw [eo] at e; cases e
     obtain ⟨h1, h2⟩ := all n ih _ _ eo
     exact ⟨h1, by simp only [PyData.depth]; omega⟩
theorem Iz {st : Sto} {n : Nat} {d : D} {p : PyData} (h : Ap st n d = some p) (hn : n ≤ 64) : SeqAt.shaped p = true := by
 obtain ⟨h1, h2⟩ := iz n d p h
 unfold SeqAt.shaped
 rw [h1, decide_eq_true (by omega : p.depth ≤ 64)]
 rfl
def ja (g : G) (neg : Bool) : R2 := fun x y H Q => ∃ rho st d e p q, g.Sto rho st H ∧ g.Rep rho H d x ∧ g.Rep rho H e y ∧ Ap st 40 d = some p ∧ Ap st 40 e = some q ∧ Q (.bl (if neg then !PyData.eqv p q else PyData.eqv p q)) H
theorem Kx (hK : X.K = g.K) (hu : X.A.units + 64 < cLine) : OpR X (compareOp .Eq) (ja g false) := by
 intro pins s sg H x y v u Q I rx ry h
 obtain ⟨rho, st, d, e, p, q, S, r1, r2, e1, e2, hq⟩ := h
 obtain ⟨as, h1⟩ := reads hK I S 40 d x v p r1 rx e1
 obtain ⟨bs, h2⟩ := reads hK I S 40 e y u q r2 ry e2
 exact SeqAt.compareEq_shaped h1 h2 (Iz e1 (by decide)) (Iz e2 (by decide)) hu ⟨.bl _, H, I, rfl, hq⟩
theorem Og (hK : X.K = g.K) (hu : X.A.units + 64 < cLine) : OpR X (compareOp .NotEq) (ja g true) := by
 intro pins s sg H x y v u Q I rx ry h
 obtain ⟨rho, st, d, e, p, q, S, r1, r2, e1, e2, hq⟩ := h
 obtain ⟨as, h1⟩ := reads hK I S 40 d x v p r1 rx e1
 obtain ⟨bs, h2⟩ := reads hK I S 40 e y u q r2 ry e2
 exact SeqAt.compareNe_shaped h1 h2 (Iz e1 (by decide)) (Iz e2 (by decide)) hu ⟨.bl _, H, I, rfl, hq⟩
theorem Ja {st : Sto} {x y : D} {b : Bool} (h : eqV st x y = some b) : ∃ p q, Ap st 40 x = some p ∧ Ap st 40 y = some q ∧ b = PyData.eqv p q := by
 unfold eqV at h
 cases e1 : Ap st 40 x with
 | none => rw [e1] at h; cases h
 | some p =>
  cases e2 : Ap st 40 y with
  | none => rw [e1, e2] at h; cases h
  | some q => rw [e1, e2] at h; cases h; exact ⟨p, q, rfl, rfl, rfl⟩
end DD
namespace DD
open PySem PySem.Spec L2
open PyProof.Rows hiding St RelV
def IsN (hp : Heap) : Nat → D → Value → Prop
 | 0, d, v => (∃ i t, d = .int i ∧ v = .int i t) ∨ ∃ x t, d = .str x ∧ v = .str x t ∧ PyData.canLay0 (.str x) = true
 | n + 1, d, v => ((∃ i t, d = .int i ∧ v = .int i t) ∨ ∃ x t, d = .str x ∧ v = .str x t ∧ PyData.canLay0 (.str x) = true) ∨ ∃ ds q ob its m, d = .tup ds ∧ v = .ref q ∧ hp.get? q = some ob ∧ ob.cls = .type "tuple" ∧ ob.data = .seq its m ∧ Paired (IsN hp n) ds its.toList
def dz : Nat → D → Nat
 | n + 1, .tup ds => (ds.map (dz n)).sum + 1
 | _, _ => 1
theorem oh {hp : Heap} : ∀ {n : Nat} {x y : D} {v : Value}, IsN hp n x v → IsN hp n y v → x = y
 | 0, x, y, v, h1, h2 => by
  rcases h1 with ⟨i, t, rfl, rfl⟩ | ⟨z, t, rfl, rfl, _⟩
  · rcases h2 with ⟨j, u, rfl, e⟩ | ⟨z, u, rfl, e, _⟩
    · cases e; rfl
    · cases e
  · rcases h2 with ⟨j, u, rfl, e⟩ | ⟨z', u, rfl, e, _⟩
    · cases e
    · cases e; rfl
 | n + 1, x, y, v, h1, h2 => by
  rcases h1 with (⟨i, t, rfl, rfl⟩ | ⟨z, t, rfl, rfl, _⟩) | ⟨ds, q, ob, its, m, rfl, rfl, e1, e2, e3, e4⟩
  · rcases h2 with (⟨j, u, rfl, e⟩ | ⟨z, u, rfl, e, _⟩) | ⟨ds, q, ob, its, m, rfl, e, _⟩
    · cases e; rfl
    · cases e
    · cases e
  · rcases h2 with (⟨j, u, rfl, e⟩ | ⟨z', u, rfl, e, _⟩) | ⟨ds, q, ob, its, m, rfl, e, _⟩
    · cases e
    · cases e; rfl
    · cases e
  · rcases h2 with (⟨j, u, rfl, e⟩ | ⟨z, u, rfl, e, _⟩) | ⟨ds2, q2, ob2, its2, m2, rfl, e, f1, f2, f3, f4⟩
    · cases e
    · cases e
    · cases e
      rw [e1] at f1; cases f1
      rw [e3] at f3; cases f3
      have : ds = ds2 := by
       clear e1 e2 e3 f2
       generalize its.toList = l at e4 f4
       induction e4 generalizing ds2 with
       | nil => cases f4; rfl
       | cons p t ih =>
        cases f4 with
        | cons p2 t2 => rw [oh p p2, ih _ t2]
      rw [this]
theorem Oh {hp h' : Heap} (hk : ∀ q ob its m, hp.get? q = some ob → ob.data = .seq its m → h'.get? q = some ob) : ∀ {n : Nat} {x : D} {v : Value}, IsN hp n x v → IsN h' n x v
 | 0, x, v, h => h
 | n + 1, x, v, h => by
  rcases h with h | ⟨ds, q, ob, its, m, rfl, rfl, e1, e2, e3, e4⟩
  · exact .inl h
  · refine .inr ⟨ds, q, ob, its, m, rfl, rfl, hk q ob its m e1 e3, e2, e3, ?_⟩
    clear e3
    generalize its.toList = l at e4 ⊢
    induction e4 with
    | nil => exact .nil
    | cons p t ih => exact .cons (Oh hk p) ih
section
variable {prog : Program} {w : World}
theorem Xn : ∀ (n : Nat) (d : D) (v : Value) (A : Around) (E : Value → Shared → Prop) (s : Shared) (Q : Int → Shared → Prop), A.units + n < cLine → IsN s.heap n d v → Q (cq w n d) { s with toks := s.toks + dz n d } → wpAny (model prog w) A (pyHash v) Q E s := by
 have flat : ∀ (n : Nat) (d : D) (v : Value) (A : Around) (E : Value → Shared → Prop) (s : Shared) (Q : Int → Shared → Prop), ((∃ i t, d = .int i ∧ v = .int i t) ∨ ∃ x t, d = .str x ∧ v = .str x t ∧ PyData.canLay0 (.str x) = true) → Q (cq w n d) { s with toks := s.toks + dz n d } → wpAny (model prog w) A (pyHash v) Q E s := by
  intro n d v A E s Q h q
  rcases h with ⟨i, t, rfl, rfl⟩ | ⟨x, t, rfl, rfl, _⟩
  · exact wpAny_pyHash_int (by cases n <;> exact q)
  · exact wpAny_pyHash_str (by cases n <;> exact q)
 intro n
 induction n with
 | zero => intro d v A E s Q _ h q; exact flat 0 d v A E s Q h q
 | succ n ih =>
  intro d v A E s Q hu h q
  rcases h with h | ⟨ds, p, ob, its, m, rfl, rfl, e1, e2, e3, e4⟩
  · exact flat (n + 1) d v A E s Q h q
  · have tt : s.TypeIs (.ref p) "tuple" := ⟨ob, e1, e2⟩
    unfold pyHash
    first | unfold pyHashByItsType | skip
    first | refine wpAny_bind (wpAny_cRoomFor_or (.inr (by omega)) ?_) | skip
    refine wpAny_bind (wpAny_specialOf tt F.slot_tuple_hash.lookup (?_ : wpAny _ _ (if (some (Value.builtin "tuple.__hash__") == some Value.none) = true then _ else _) Q E s))
    rw [if_neg (by rw [beq_builtin_none]; exact Bool.false_ne_true)]
    refine wpAny_bind (wpAny_specialOf tt F.slot_tuple_hash.lookup (?_ : wpAny _ _ (callSpecialIfBoundUnlessNone? (.ref p) "__hash__" _ >>= _) Q E s))
    refine wpAny_bind (wpAny_callSpecialIfBoundUnlessNone?_slot tt F.slot_tuple_hash (wpAny_call_entry F.slot_tuple_hash tt F.entry_tuple_hash (?_ : wpAny _ _ (Builtin.Tuple.tupleItemsOf (.ref p) >>= _) _ _ s) (F.args_tuple_hash_1 _)))
    refine wpAny_bind (wpAny_tupleItemsOf e1 e3 (wpAny_bind ?_))
    rw [← Array.forIn_toList]
    refine wpAny_forIn_list _ (fun rest (b : Array Int) s' => ∃ pre post, ds = pre ++ post ∧ Paired (IsN s.heap n) post rest ∧ b.toList = pre.map (cq w n) ∧ s' = { s with toks := s.toks + (pre.map (dz n)).sum }) _ ?_ ?_ _ _ ⟨[], ds, rfl, e4, rfl, by simp⟩
    · rintro x rest b s' ⟨pre, post, rfl, hp, hb, rfl⟩
      cases hp with
      | @cons d1 _ post' _ h1 h2 =>
       refine wpAny_bind (ih d1 x _ _ _ _ (by show A.units + 1 + n < cLine; omega) h1 ?_)
       have fin : ∃ pre2 post2, pre ++ d1 :: post' = pre2 ++ post2 ∧ Paired (IsN s.heap n) post2 rest ∧ (b.push (cq w n d1)).toList = pre2.map (cq w n) ∧ ({ s with toks := s.toks + (pre.map (dz n)).sum + dz n d1 } : Shared) = { s with toks := s.toks + (pre2.map (dz n)).sum } :=
        ⟨pre ++ [d1], post', by simp, h2, by simp [hb], by simp [Nat.add_assoc]⟩
       first
        | exact wpAny_pure fin
        | exact wpAny_bind (wpAny_pure (wpAny_pure fin))
    · rintro b s' ⟨pre, post, rfl, hp, hb, rfl⟩
      cases hp
      rw [List.append_nil] at q
      refine (?_ : wpAny _ _ (retInt (Builtin.Tuple.tupleHashOf b.toList)) _ _ _)
      rw [hb]
      refine wpAny_ret_mkInt (?_ : wpAny _ _ (if (decide (-(2 : Int) ^ 63 ≤ Builtin.Tuple.tupleHashOf (pre.map (cq w n))) && decide (Builtin.Tuple.tupleHashOf (pre.map (cq w n)) < 2 ^ 63)) = true then _ else _) Q E _)
      simp only [cq, dz] at q
      unfold reduceHash at q
      by_cases hr : (decide (-(2 : Int) ^ 63 ≤ Builtin.Tuple.tupleHashOf (pre.map (cq w n))) && decide (Builtin.Tuple.tupleHashOf (pre.map (cq w n)) < 2 ^ 63)) = true
      · rw [if_pos hr] at q ⊢
        exact wpAny_pure (by simpa [Nat.add_assoc] using q)
      · rw [if_neg hr] at q ⊢
        exact wpAny_bind (wpAny_rule (wpAny_pure (by simpa [Nat.add_assoc] using q)))
def pyN : Nat → D → PyData
 | _, .int i => .int i
 | _, .str x => .str x
 | n + 1, .tup ds => .tuple (ds.map (pyN n))
 | _, _ => .none
theorem oi {hp : Heap} : ∀ {n : Nat} {d : D} {v : Value}, IsN hp n d v → (∃ as, Reads hp v (pyN n d) as) ∧ (pyN n d).canLay0 = true ∧ (pyN n d).depth ≤ n := by
 have flat : ∀ {n : Nat} {d : D} {v : Value}, ((∃ i t, d = .int i ∧ v = .int i t) ∨ ∃ x t, d = .str x ∧ v = .str x t ∧ PyData.canLay0 (.str x) = true) → (∃ as, Reads hp v (pyN n d) as) ∧ (pyN n d).canLay0 = true ∧ (pyN n d).depth ≤ n := by
  intro n d v h
  rcases h with ⟨i, t, rfl, rfl⟩ | ⟨x, t, rfl, rfl, hx⟩
  · cases n <;> exact ⟨⟨_, .int i t⟩, rfl, Nat.zero_le _⟩
  · cases n <;> exact ⟨⟨_, .str x t⟩, hx, Nat.zero_le _⟩
 intro n
 induction n with
 | zero => intro d v h; exact flat h
 | succ n ih =>
  intro d v h
  rcases h with h | ⟨ds, q, ob, its, m, rfl, rfl, e1, e2, e3, e4⟩
  · exact flat h
  · have all : ∀ {ds : List D} {l : List Value}, Paired (IsN hp n) ds l → (∃ as, ReadsAll hp l (ds.map (pyN n)) as) ∧ PyData.canLayAll0 (ds.map (pyN n)) = true ∧ PyData.depthAll (ds.map (pyN n)) ≤ n := by
     intro ds l h
     induction h with
     | nil => exact ⟨⟨[], .nil⟩, rfl, Nat.zero_le _⟩
     | cons p t ih2 =>
      obtain ⟨⟨as, r1⟩, c1, d1⟩ := ih p
      obtain ⟨⟨bs, r2⟩, c2, d2⟩ := ih2
      exact ⟨⟨as ++ bs, .cons r1 r2⟩, by simp only [List.map_cons, PyData.canLayAll0, c1, c2, Bool.and_self], by simp only [List.map_cons, PyData.depthAll]; exact Nat.max_le.mpr ⟨d1, d2⟩⟩
    obtain ⟨⟨as, r⟩, c, dp⟩ := all e4
    exact ⟨⟨_, .tuple e1 e2 e3 r⟩, c, by simp only [pyN, PyData.depth]; omega⟩
theorem xo {hp : Heap} : ∀ {n : Nat} {x y : D} {u v : Value}, IsN hp n x u → IsN hp n y v → PyData.eqv (pyN n x) (pyN n y) = decide (x = y) := by
 intro n
 induction n with
 | zero =>
  intro x y u v h1 h2
  rcases h1 with ⟨i, t, rfl, rfl⟩ | ⟨z, t, rfl, rfl, _⟩ <;> rcases h2 with ⟨j, t', rfl, rfl⟩ | ⟨z', t', rfl, rfl, _⟩ <;> simp [pyN, PyData.eqv] <;> (first | rfl | exact Bool.beq_eq_decide_eq _ _)
 | succ n ih =>
  intro x y u v h1 h2
  rcases h1 with (⟨i, t, rfl, rfl⟩ | ⟨z, t, rfl, rfl, _⟩) | ⟨ds, q, ob, its, m, rfl, rfl, e1, e2, e3, e4⟩ <;> rcases h2 with (⟨j, t', rfl, rfl⟩ | ⟨z', t', rfl, rfl, _⟩) | ⟨ds2, q2, ob2, its2, m2, rfl, rfl, f1, f2, f3, f4⟩
  · simp [pyN, PyData.eqv] <;> rfl
  · simp [pyN, PyData.eqv]
  · simp [pyN, PyData.eqv]
  · simp [pyN, PyData.eqv]
  · simp [pyN, PyData.eqv] <;> rfl
  · simp [pyN, PyData.eqv]
  · simp [pyN, PyData.eqv]
  · simp [pyN, PyData.eqv]
  · have all : ∀ {ds ds2 : List D} {l l2 : List Value}, Paired (IsN hp n) ds l → Paired (IsN hp n) ds2 l2 → PyData.eqvAll (ds.map (pyN n)) (ds2.map (pyN n)) = decide (ds = ds2) := by
     intro ds ds2 l l2 h
     induction h generalizing ds2 l2 with
     | nil => intro h2; cases h2 <;> simp [PyData.eqvAll]
     | @cons a b r r2 p t ih2 =>
      intro h2
      cases h2 with
      | nil => simp [PyData.eqvAll]
      | cons p2 t2 =>
       simp only [List.map_cons, PyData.eqvAll, ih p p2, ih2 t2, List.cons.injEq, Bool.decide_and]
    simp only [pyN, PyData.eqv, all e4 f4]
    simp
end
section
variable {prog : Program} {w : World}
theorem Xo : ∀ (n m : Nat) (d : D) (v : Value) (A : Around) (E : Value → Shared → Prop) (s : Shared) (Q : Bool → Shared → Prop), n ≤ m → IsN s.heap n d v → Q true s → wpAny (model prog w) A (eqIsQuiet m v) Q E s := by
 have flat : ∀ (m : Nat) (d : D) (v : Value) (A : Around) (E : Value → Shared → Prop) (s : Shared) (Q : Bool → Shared → Prop), ((∃ i t, d = .int i ∧ v = .int i t) ∨ ∃ x t, d = .str x ∧ v = .str x t ∧ PyData.canLay0 (.str x) = true) → Q true s → wpAny (model prog w) A (eqIsQuiet m v) Q E s := by
  intro m d v A E s Q h q
  rcases h with ⟨i, t, rfl, rfl⟩ | ⟨x, t, rfl, rfl, _⟩
  · rw [eqIsQuiet_byValue m (v := .int i t) rfl]; exact wpAny_pure q
  · rw [eqIsQuiet_byValue m (v := .str x t) rfl]; exact wpAny_pure q
 intro n
 induction n with
 | zero => intro m d v A E s Q _ h q; exact flat m d v A E s Q h q
 | succ n ih =>
  intro m d v A E s Q hm h q
  rcases h with h | ⟨ds, p, ob, its, k, rfl, rfl, e1, e2, e3, e4⟩
  · exact flat m d v A E s Q h q
  · obtain ⟨m, rfl⟩ : ∃ j, m = j + 1 := ⟨m - 1, by omega⟩
    have tt : s.TypeIs (.ref p) "tuple" := ⟨ob, e1, e2⟩
    unfold eqIsQuiet
    refine wpAny_bind (wpAny_specialOf tt F.slot_tuple_eq.lookup (?_ : wpAny _ _ (isInstance (.ref p) (.type "tuple") >>= _) _ _ s))
    refine wpAny_bind (wpAny_isInstance tt isSubtype_tuple_tuple ?_)
    simp only [Bool.not_true, Bool.false_eq_true, if_false]
    refine wpAny_bind (wpAny_seqItems e1 e3 (wpAny_bind (?_ : wpAny _ _ (forIn its _ _) _ _ s)))
    rw [← Array.forIn_toList]
    refine wpAny_forIn_list _ (fun rest r s' => r.1 = none ∧ s' = s ∧ ∃ post, Paired (IsN s.heap n) post rest) _ ?_ ?_ _ _ ⟨rfl, rfl, ds, e4⟩
    · rintro x rest r s' ⟨hr, rfl, post, hp⟩
      cases hp with
      | @cons d1 _ post' _ h1 h2 =>
       refine wpAny_bind (ih m d1 x _ _ _ _ (by omega) h1 ?_)
       simp only [Bool.not_true, Bool.false_eq_true, if_false]
       exact wpAny_pure ⟨rfl, rfl, post', h2⟩
    · rintro ⟨r1, r2⟩ s' ⟨hr, rfl, _⟩
      obtain rfl : r1 = none := hr
      exact wpAny_pure q
def Fc (prog : Program) (w : World) : HeapKind prog w D where
 is := fun hp d q => IsN hp 8 d (.ref q)
 hash := cq w 8
 draws := dz 8
 room := fun A => A.units + 16 < cLine
 inj := fun h1 h2 => oh h1 h2
 keeps := fun {hp h' k q dd o es ep} h ho hd hs => Oh (fun q ob its m e c => (hs.2 q (by
  rintro rfl
  rw [ho] at e; cases e
  rw [hd] at c; cases c)).trans e) h
 pyHash := fun hu h q => Xn 8 _ _ _ _ _ _ (by omega) h q
 eqBool := fun {A E s x y a b Q} hu h1 h2 q => by
  obtain ⟨⟨as, r1⟩, c1, d1⟩ := oi h1
  obtain ⟨⟨bs, r2⟩, c2, d2⟩ := oi h2
  refine PySem.SeqAt.eqBoolOverData prog w A E s _ _ _ _ as bs Q r1 r2 c1 c2 ?_ (by rw [xo h1 h2]; exact q)
  have : min (pyN 8 x).depth (pyN 8 y).depth ≤ 8 := Nat.le_trans (Nat.min_le_left _ _) d1
  omega
 quiet := fun h q => Xo 8 8 _ _ _ _ _ _ (Nat.le_refl _) h q
end
end DD
namespace DD
open PySem PySem.Spec L2
open PyProof.Rows hiding St RelV
variable {g : G} {X : Cx} {pos apos cpos : Pos} {F : Nat} {a b c : Expr} {a' b' c' : E}
theorem Oi (hK : X.K = g.K) {pins : List (Addr × Obj)} {sg : L2.St} {H : Hp} {s : Shared} {rho : List Addr} (I : Inv X pins sg H s) : ∀ (n : Nat) (d : D) (v : V) (u : Value), g.Rep rho H d v → RelV v u → okN n d = true → IsN s.heap n d u := by
 have flat : ∀ (n : Nat) (d : D) (v : V) (u : Value), g.Rep rho H d v → RelV v u → okN n d = true → (∀ ds, d ≠ .tup ds) → ((∃ i t, d = .int i ∧ u = .int i t) ∨ ∃ x t, d = .str x ∧ u = .str x t ∧ PyData.canLay0 (.str x) = true) := by
  intro n d v u r rv ok nt
  cases d with
  | int i => cases Aq.mp r; obtain ⟨t, rfl⟩ := rv; exact .inl ⟨i, t, rfl, rfl⟩
  | str x => cases Bk.mp r; obtain ⟨t, rfl⟩ := rv; exact .inr ⟨x, t, rfl, rfl, by cases n <;> exact ok⟩
  | tup ds => exact (nt ds rfl).elim
  | _ => cases n <;> simp [okN] at ok
 intro n
 induction n with
 | zero =>
  intro d v u r rv ok
  refine flat 0 d v u r rv ok fun ds z => ?_
  subst z; simp [okN] at ok
 | succ n ih =>
  intro d v u r rv ok
  by_cases ht : ∃ ds, d = .tup ds
  · obtain ⟨ds, rfl⟩ := ht
    obtain ⟨q, vs, rfl, sq, rl⟩ := br.mp r
    rw [← hK] at sq
    obtain ⟨its, rvs, pl, hz⟩ := I.tuple sq
    obtain ⟨ob, ho, hc, m, hd⟩ := pl
    cases rv
    refine .inr ⟨ds, q, ob, its.toArray, m, rfl, rfl, ho, hc, hd, ?_⟩
    have ok : ds.all (okN n) = true := by simpa [okN] using ok
    clear hd ho hc sq hz r
    have all : ∀ {ds : List D} {vs : List V} {its : List Value}, g.RepL rho H ds vs → Vals vs its → ds.all (okN n) = true → Paired (IsN s.heap n) ds its := by
     intro ds
     induction ds with
     | nil => intro vs its r q _; simp only [RepL] at r; subst r; cases q; exact .nil
     | cons x t ih2 =>
      intro vs its r q ok
      simp only [RepL] at r
      obtain ⟨v, w, rfl, r1, r2⟩ := r
      simp only [List.all_cons, Bool.and_eq_true] at ok
      cases q with
      | cons q1 q2 => exact .cons (ih x v _ r1 q1 ok.1) (ih2 r2 q2 ok.2)
    simpa using all rl rvs ok
  · exact .inl (flat (n + 1) d v u r rv ok fun ds z => ht ⟨ds, z⟩)
theorem Oj (hK : X.K = g.K) (hw : g.cls.w = X.w) {pins : List (Addr × Obj)} {sg : L2.St} {H : Hp} {s : Shared} {rho : List Addr} {p : Addr} {kvs : List (D × D)} {xs : List (D × Addr × V)} (I : Inv X pins sg H s) (hH : Rd H p (.ext (Ft g.cls.w p xs))) (nv : Bu g.K rho H kvs xs) :
    (p == sysModules) = false ∧ xs.length ≤ sizeLine ∧ ∃ ys : List (D × Addr × Value), Paired (fun (x : D × Addr × V) (y : D × Addr × Value) => x.1 = y.1 ∧ x.2.1 = y.2.1 ∧ RelV x.2.2 y.2.2) xs ys ∧ s.heap.DictOfH (Fc X.prog X.w) p ys := by
  obtain ⟨⟨h1, h2, h3, o, es, ep, h4, h5, h6, h7⟩, h8⟩ := (show bg X.prog X.w H s.heap p (.ext _) from hH.ok I.hok)
  refine ⟨h1, h2, ?_⟩
  have keys : ∀ x ∈ xs, IsN s.heap 8 x.1 (.ref x.2.1) := by
    clear h8 h7 h3 h2 hH
    induction xs generalizing kvs with
    | nil => intro x hx; cases hx
    | cons y t ih =>
      cases kvs with
      | nil => simp only [Bu] at nv; cases nv
      | cons kd r =>
        obtain ⟨k, d⟩ := kd
        simp only [Bu] at nv
        obtain ⟨b, v, t2, e, kn, r1, _, q⟩ := nv
        cases e
        intro x hx
        rcases List.mem_cons.mp hx with rfl | hx
        · refine Oi hK I 8 _ _ _ r1 rfl ?_
          cases k with
          | tup ds => exact kn
          | _ => cases kn
        · exact ih q x hx
  have mk : ∀ {xs : List (D × Addr × V)} {l : List DictEntry}, Paired (fun (x : D × Addr × V) (e : DictEntry) => e.hash = cq g.cls.w 8 x.1 ∧ e.key = .ref x.2.1 ∧ RelV x.2.2 e.val) xs l → ∃ ys : List (D × Addr × Value), Paired (fun (x : D × Addr × V) (y : D × Addr × Value) => x.1 = y.1 ∧ x.2.1 = y.2.1 ∧ RelV x.2.2 y.2.2) xs ys ∧ l = ys.map (entryOfKey (Fc X.prog X.w)) ∧ ys.map (·.1) = xs.map (·.1) := by
    intro xs l h
    induction h with
    | nil => exact ⟨[], .nil, rfl, rfl⟩
    | @cons x e t r p q ih =>
      obtain ⟨ys, e1, e2, e3⟩ := ih
      obtain ⟨hh, hk, hv⟩ := p
      refine ⟨(x.1, x.2.1, e.val) :: ys, .cons ⟨rfl, rfl, hv⟩ e1, ?_, by simp [e3]⟩
      rw [List.map_cons, e2]
      congr 1
      obtain ⟨eh, ek, ev⟩ := e
      simp only at hh hk
      subst hh hk
      rw [hw]; rfl
  obtain ⟨ys, e1, e2, e3⟩ := mk h7
  refine ⟨ys, e1, o, es, ep, h4, h5, h6, e2, ?_, by rw [e3]; exact h3⟩
  have : ∀ {xs : List (D × Addr × V)} {ys : List (D × Addr × Value)}, Paired (fun (x : D × Addr × V) (y : D × Addr × Value) => x.1 = y.1 ∧ x.2.1 = y.2.1 ∧ RelV x.2.2 y.2.2) xs ys → (∀ x ∈ xs, IsN s.heap 8 x.1 (.ref x.2.1)) → ∀ y ∈ ys, (Fc X.prog X.w).is s.heap y.1 y.2.1 := by
    intro xs ys h
    induction h with
    | nil => intro _ y hy; cases hy
    | @cons x y t r p q ih =>
      intro hx z hz
      rcases List.mem_cons.mp hz with rfl | hz
      · have := hx x List.mem_cons_self
        rw [p.1, p.2.1] at this
        exact this
      · exact ih (fun x h => hx x (List.mem_cons_of_mem _ h)) z hz
  exact this e1 keys
theorem Xp (hK : X.K = g.K) (hw : g.cls.w = X.w) {pins : List (Addr × Obj)} {sg : L2.St} {H : Hp} {s : Shared} {rho : List Addr} {p : Addr} {kvs : List (D × D)} {xs : List (D × Addr × V)} (I : Inv X pins sg H s) (hH : H p = some (.ext (Ft g.cls.w p xs))) (nv : Bu g.K rho H kvs xs) :
    (p == sysModules) = false ∧ xs.length ≤ sizeLine ∧ ∃ ys : List (D × Addr × Value), Paired (fun (x : D × Addr × V) (y : D × Addr × Value) => x.1 = y.1 ∧ x.2.1 = y.2.1 ∧ RelV x.2.2 y.2.2) xs ys ∧ s.heap.DictOfH (Fc X.prog X.w) p ys := Oj hK hw I (.inl hH) nv
theorem ky {rho : List Addr} {H : Hp} {k : D} : ∀ {kvs : List (D × D)} {xs : List (D × Addr × V)} {ys : List (D × Addr × Value)}, Bu g.K rho H kvs xs → Paired (fun (x : D × Addr × V) (y : D × Addr × Value) => x.1 = y.1 ∧ x.2.1 = y.2.1 ∧ RelV x.2.2 y.2.2) xs ys →
    (∀ d, ay kvs k = some d → ∃ q v u, atKey ys k = some (q, u) ∧ RelV v u ∧ g.Rep rho H d v) ∧ (ay kvs k = none → atKey ys k = none)
  | [], xs, ys, h, p => by
    simp only [Bu] at h; subst h
    cases p
    exact ⟨fun d e => by simp [ay] at e, fun _ => rfl⟩
  | (x, d) :: r, xs, ys, h, p => by
    simp only [Bu] at h
    obtain ⟨b, v, t, rfl, _, _, rd, q⟩ := h
    cases p with
    | @cons _ y _ t2 p1 p2 =>
      obtain ⟨y1, y2, y3⟩ := y
      obtain ⟨e1, e2, e3⟩ := p1
      simp only at e1 e2 e3
      subst e1 e2
      by_cases e : x = k
      · subst e
        refine ⟨fun d' ed => ⟨b, v, y3, by simp [atKey], e3, ?_⟩, fun en => by simp [ay] at en⟩
        simp [ay] at ed; subst ed; exact rd
      · obtain ⟨l1, l2⟩ := ky (k := k) q p2
        refine ⟨fun d' ed => ?_, fun en => ?_⟩
        · obtain ⟨q', v', u', h1, h2, h3⟩ := l1 d' (by simpa [ay, e] using ed)
          exact ⟨q', v', u', by simpa [atKey, e] using h1, h2, h3⟩
        · have := l2 (by simpa [ay, e] using en)
          simpa [atKey, e] using this
end DD
namespace DD
open PySem PySem.Spec L2
variable {g : G} {X : Cx} {a b c : Expr} {a' b' c' : E} {pos : Pos}
theorem jb {k : Cm} {x y : D} {st st' : Sto} {d : D} (h : cmD k x y st = .ok d st') : ∃ b, d = .bl b := by
 cases k <;> simp only [cmD] at h <;> (repeat' (split at h)) <;> first | (cases h; exact ⟨_, rfl⟩) | cases h
theorem cmT {k : Cm} {sg : L2.St} {H : Hp} {Q : Bool → Hp → Prop} (q : tT g (.cm k a' b') sg H Q) : tE g (.cm k a' b') sg H (fun x H' => ∃ z, x = .bl z ∧ Q z H') := by
 obtain ⟨rho, st, env, s, n, q⟩ := q
 refine ⟨rho, st, env, s, n, ?_⟩
 simp only [Aj] at q
 simp only [aa]
 revert q
 cases aa g.tab g.call a' env st with
 | bad => exact fun q => q
 | exc c st1 => exact fun q => q
 | ok x st1 =>
  simp only [bc]
  cases aa g.tab g.call b' env st1 with
  | bad => exact fun q => q
  | exc c st2 => exact fun q => q
  | ok y st2 =>
   simp only [bc]
   cases e : cmD k x y st2 with
   | bad => exact fun q => q
   | exc c st3 => exact fun q => q
   | ok d st3 =>
    obtain ⟨z, rfl⟩ := jb e
    simp only [bc]
    intro q v H' rho' k1 s1 r1
    exact ⟨z, az.mp r1, (show Cq g rho H Q z st3 from q) H' rho' k1 s1⟩
theorem Ol  {sg : L2.St} {H : Hp} {Q : VK} (q : tE g (.cm .eq a' b') sg H Q) : tOp (ja g false) (tE g a') (tE g b') sg H Q := by
 obtain ⟨rho, st, env, s, n, q⟩ := q
 simp only [aa] at q
 refine two (k := cmD .eq) ?_ s n q
 intro x y u v st rho H Q s rx ry q
 simp only [cmD] at q
 cases e : eqV st x y with
 | none => rw [e] at q; exact q.elim
 | some z =>
  rw [e] at q
  obtain ⟨p1, p2, h1, h2, rfl⟩ := Ja e
  exact ⟨rho, st, x, y, p1, p2, s, rx, ry, h1, h2, (show Ak g rho H Q (.bl _) st from q) _ H rho (.refl _ _) s (az.mpr rfl)⟩
theorem Gw (hK : X.K = g.K) (hu : X.A.units + 64 < cLine) (ha : Sd g X a a') (hb : Sd g X b b') : Sd g X (.Compare a [.Eq] [b] pos) (.cm .eq a' b') := Ay (ki (Kx hK hu) ha hb (Eo _)) fun sg H Q q => Ol q
theorem fu (hK : X.K = g.K) (hu : X.A.units + 64 < cLine) (ha : Sd g X a a') (hb : Sd g X b b') : SdT g X (.Compare a [.Eq] [b] pos) (.cm .eq a' b') := dg (Ep (Kx hK hu) ha hb (Eo _)) fun sg H Q q => Ol (cmT q)
theorem xq  {sg : L2.St} {H : Hp} {Q : VK} (q : tE g (.cm .ne a' b') sg H Q) : tOp (ja g true) (tE g a') (tE g b') sg H Q := by
 obtain ⟨rho, st, env, s, n, q⟩ := q
 simp only [aa] at q
 refine two (k := cmD .ne) ?_ s n q
 intro x y u v st rho H Q s rx ry q
 simp only [cmD] at q
 cases e : eqV st x y with
 | none => rw [e] at q; exact q.elim
 | some z =>
  rw [e] at q
  obtain ⟨p1, p2, h1, h2, rfl⟩ := Ja e
  exact ⟨rho, st, x, y, p1, p2, s, rx, ry, h1, h2, (show Ak g rho H Q (.bl _) st from q) _ H rho (.refl _ _) s (az.mpr rfl)⟩
theorem cb (hK : X.K = g.K) (hu : X.A.units + 64 < cLine) (ha : Sd g X a a') (hb : Sd g X b b') : SdT g X (.Compare a [.NotEq] [b] pos) (.cm .ne a' b') := dg (Ep (Og hK hu) ha hb (Eo _)) fun sg H Q q => xq (cmT q)
theorem ints2 {r : Int → Int → Bool} {k : Cm} (hk : ∀ x y st, cmD k x y st = match x, y with | .int i, .int j => .ok (.bl (r i j)) st | _, _ => .bad) {sg : L2.St} {H : Hp} {Q : VK}
    (q : tE g (.cm k a' b') sg H Q) : tOp (rI0 fun i j => .bl (r i j)) (tE g a') (tE g b') sg H Q := by
  obtain ⟨rho, st, env, s, n, q⟩ := q
  simp only [aa] at q
  refine two (k := cmD k) ?_ s n q
  intro x y u v st rho H Q s rx ry q
  rw [hk] at q
  cases x with
  | int i =>
    cases y with
    | int j => exact ⟨i, j, Aq.mp rx, Aq.mp ry, q _ H rho (.refl _ _) s (az.mpr rfl)⟩
    | _ => exact q.elim
  | _ => exact q.elim
theorem Fd (ha : Sd g X a a') (hb : Sd g X b b') : SdT g X (.Compare a [.Lt] [b] pos) (.cm .lt a' b') := dg (Ep mz ha hb (Eo _)) fun sg H Q q => ints2 (fun x y st => by cases x <;> cases y <;> rfl) (cmT q)
theorem Ky (ha : Sd g X a a') (hb : Sd g X b b') : SdT g X (.Compare a [.Gt] [b] pos) (.cm .gt a' b') := dg (Ep Mz ha hb (Eo _)) fun sg H Q q => ints2 (fun x y st => by cases x <;> cases y <;> rfl) (cmT q)
theorem Xq (ha : Sd g X a a') (hb : Sd g X b b') : Sd g X (.Compare a [.GtE] [b] pos) (.cm .ge a' b') := Ay (ki Na ha hb (Eo _)) fun sg H Q q => ints2 (fun x y st => by cases x <;> cases y <;> rfl) q
theorem kz {rho : List Addr} {st : Sto} {H : Hp} (s : g.Sto rho st H) {d : D} {v : V} {ds : List D} (r : g.Rep rho H d v) (h : Dw st d = some ds) : ∃ p vs, v = .ref p ∧ (SqL g.K H p vs ∨ SqT g.K H p vs) ∧ g.RepL rho H ds vs := by
 cases d with
 | tup xs =>
  simp only [Dw] at h; cases h
  obtain ⟨p, vs, e, q, rl⟩ := br.mp r
  exact ⟨p, vs, e, .inr q, rl⟩
 | loc n =>
  simp only [Dw] at h
  obtain ⟨p, vs, h1, q, rl⟩ := Dg s h
  obtain ⟨p2, h2, e⟩ := bb.mp r
  rw [h1] at h2; cases h2
  exact ⟨p, vs, e, .inl q, rl⟩
 | _ => cases h
theorem Jb {a b : D} {k : Key} (h : kD a = some k) (h2 : kD b = some k) : a = b := by
 cases a <;> cases b <;> simp only [kD, Option.some.injEq, reduceCtorEq] at h h2 <;> first | (rw [← h] at h2; cases h2; rfl) | (rw [← h] at h2; cases h2)
theorem Ht {a : D} (h : Bs a = true) : ∃ k, kD a = some k := by
 cases a <;> simp [Bs] at h <;> exact ⟨_, rfl⟩
theorem Hu {rho : List Addr} {H : Hp} {a : D} {v : V} {k : Key} (r : g.Rep rho H a v) (h : kD a = some k) : v = kV k := by
 cases a with
 | int i => cases Aq.mp r; cases h; rfl
 | str x => cases Bk.mp r; cases h; rfl
 | _ => cases h
theorem jc {rho : List Addr} {H : Hp} {a : D} {k : Key} (ha : kD a = some k) : ∀ {kvs : List (D × D)} {ws : List (Key × V)}, av g.K rho H kvs ws →
    (∀ x, ay kvs a = some x → ∃ v, bw ws k = some v ∧ g.Rep rho H x v) ∧ (ay kvs a = none → bw ws k = none)
  | [], ws, h => by
    simp only [av] at h; subst h
    exact ⟨fun x e => by simp [ay] at e, fun _ => rfl⟩
  | (b, d) :: r, ws, h => by
    simp only [av] at h
    obtain ⟨k', v, t, rfl, hk, rp, rest⟩ := h
    by_cases e : b = a
    · subst e
      rw [ha] at hk; cases hk
      refine ⟨fun x ex => ⟨v, by simp [bw], ?_⟩, fun en => by simp [ay] at en⟩
      simp [ay] at ex; subst ex; exact rp
    · have hkk : k' ≠ k := fun z => e (Jb (by rw [hk, z]) ha)
      obtain ⟨h1, h2⟩ := jc ha rest
      refine ⟨fun x ex => ?_, fun en => ?_⟩
      · obtain ⟨v', e1, e2⟩ := h1 x (by simpa [ay, e] using ex)
        exact ⟨v', by simpa [bw, hkk] using e1, e2⟩
      · have := h2 (by simpa [ay, e] using en)
        simpa [bw, hkk] using this
theorem fe {rho : List Addr} {st : Sto} {H : Hp} {n : Nat} {kvs : List (D × D)} (s : g.Sto rho st H) (h : Ba st n = some kvs) : ∃ a ws, rho[n]? = some a ∧ st[n]? = some (.dct kvs) ∧ H a = some (.dK ws) ∧ av g.K rho H kvs ws := by
 unfold Ba at h
 split at h
 · rename_i kvs' e
   cases h
   have hl : n < rho.length := by rw [s.len]; exact (List.getElem?_eq_some_iff.mp e).1
   obtain ⟨ws, h1, h2⟩ := s.cells n rho[n] _ (List.getElem?_eq_getElem hl) e
   exact ⟨rho[n], ws, List.getElem?_eq_getElem hl, e, h1, h2⟩
 · cases h
theorem om {rho : List Addr} {st : Sto} {H : Hp} {n : Nat} {kvs : List (D × D)} (s : g.Sto rho st H) (h : bh st n = some kvs) : ∃ a xs, rho[n]? = some a ∧ st[n]? = some (.dcn kvs) ∧ H a = some (.ext (Ft g.cls.w a xs)) ∧ Bu g.K rho H kvs xs := by
 unfold bh at h
 split at h
 · rename_i kvs' e
   cases h
   have hl : n < rho.length := by rw [s.len]; exact (List.getElem?_eq_some_iff.mp e).1
   obtain ⟨xs, h1, h2⟩ := s.cells n rho[n] _ (List.getElem?_eq_getElem hl) e
   exact ⟨rho[n], xs, List.getElem?_eq_getElem hl, e, h1, h2⟩
 · cases h
theorem xr {rho : List Addr} {st : Sto} {H : Hp} {n : Nat} {kvs : List (D × D)} (s : g.Sto rho st H) (h : gv st n = some kvs) : ∃ a xs o, rho[n]? = some a ∧ st[n]? = some (.dcg kvs) ∧ H a = some (.frz o (.ext (Ft g.cls.w a xs))) ∧ Bu g.K rho H kvs xs := by
 unfold gv at h
 split at h
 · rename_i kvs' e
   cases h
   have hl : n < rho.length := by rw [s.len]; exact (List.getElem?_eq_some_iff.mp e).1
   obtain ⟨xs, o, h1, h2⟩ := s.cells n rho[n] _ (List.getElem?_eq_getElem hl) e
   exact ⟨rho[n], xs, o, List.getElem?_eq_getElem hl, e, h1, h2⟩
 · cases h
theorem Om (hK : X.K = g.K) {pins : List (Addr × Obj)} {sg : L2.St} {H : Hp} {s : Shared} {rho : List Addr} {k : D} {v : V} {u : Value} (I : Inv X pins sg H s) (r : g.Rep rho H k v) (hk : dc k = true) (rv : RelV v u) : ∃ q, (Fc X.prog X.w).is s.heap k q ∧ u = .ref q := by
 cases k with
 | tup ds =>
  have ik := Oi hK I 8 _ _ _ r rv hk
  obtain ⟨q, vs, rfl, _⟩ := br.mp r
  cases rv
  exact ⟨q, ik, rfl⟩
 | _ => cases hk
def oo (g : G) (neg : Bool) : R2 := fun x y H Q => ∃ rho st a b z, g.Sto rho st H ∧ g.Rep rho H a x ∧ g.Rep rho H b y ∧ inD st a b = some z ∧ Q (.bl (if neg then !z else z)) H
theorem Xr {st : Sto} {a b : D} {z : Bool} (h : inS st a b = some z) : ∃ p ys, Ap st 40 a = some p ∧ (Ap st 41 b = some (.list ys) ∨ Ap st 41 b = some (.tuple ys)) ∧ z = ys.any fun y => PyData.eqv y p := by
 unfold inS at h
 split at h
 · rename_i x ys e1 e2; cases h; exact ⟨x, ys, e1, .inl e2, rfl⟩
 · rename_i x ys e1 e2; cases h; exact ⟨x, ys, e1, .inr e2, rfl⟩
 · cases h
theorem Jc {A : Around} (hu : A.units + 64 < cLine) {a b : Nat} (hb : b ≤ 40) : A.units + 1 + min a b < cLine := by
 have : min a b ≤ b := Nat.min_le_right _ _
 omega
theorem Oo (hK : X.K = g.K) (hu : X.A.units + 64 < cLine) {pins : List (Addr × Obj)} {s : Shared} {sg : L2.St} {H : Hp} {rho : List Addr} {st : Sto} {a b : D} {x y : V} {v u : Value} {z : Bool} {Q : VK} (I : Inv X pins sg H s) (S : g.Sto rho st H) (r1 : g.Rep rho H a x) (r2 : g.Rep rho H b y) (rx : RelV x v) (ry : RelV y u)
    (h : inS st a b = some z) : (Q (.bl z) H → wpAny (model X.prog X.w) X.A (compareOp .In v u) (EP X pins sg Q) X.xe s) ∧ (Q (.bl (!z)) H → wpAny (model X.prog X.w) X.A (compareOp .NotIn v u) (EP X pins sg Q) X.xe s) := by
  obtain ⟨p, ys, e1, e2, rfl⟩ := Xr h
  obtain ⟨as, h1⟩ := reads hK I S 40 a x v p r1 rx e1
  obtain ⟨c1, c2⟩ := iz 40 a p e1
  rcases e2 with e2 | e2
  · obtain ⟨bs, h2⟩ := reads hK I S 41 b y u _ r2 ry e2
    obtain ⟨c3, c4⟩ := iz 41 b _ e2
    exact ⟨fun q => PySem.SeqAt.in_list_reads h2 h1 c3 c1 (Jc hu c2) ⟨.bl _, H, I, rfl, q⟩, fun q => PySem.SeqAt.notIn_list_reads h2 h1 c3 c1 (Jc hu c2) ⟨.bl _, H, I, rfl, q⟩⟩
  · obtain ⟨bs, h2⟩ := reads hK I S 41 b y u _ r2 ry e2
    obtain ⟨c3, c4⟩ := iz 41 b _ e2
    exact ⟨fun q => PySem.SeqAt.in_tuple_reads h2 h1 c3 c1 (Jc hu c2) ⟨.bl _, H, I, rfl, q⟩, fun q => PySem.SeqAt.notIn_tuple_reads h2 h1 c3 c1 (Jc hu c2) ⟨.bl _, H, I, rfl, q⟩⟩
theorem Kz (hK : X.K = g.K) (hw : g.cls.w = X.w) (hu : X.A.units + 64 < cLine) {pins : List (Addr × Obj)} {s : Shared} {sg : L2.St} {H : Hp} {rho : List Addr} {st : Sto} {a b : D} {x y : V} {v u : Value} {z : Bool} {Q : VK} (I : Inv X pins sg H s) (S : g.Sto rho st H) (r1 : g.Rep rho H a x) (r2 : g.Rep rho H b y) (rx : RelV x v) (ry : RelV y u)
    (h : inD st a b = some z) : (Q (.bl z) H → wpAny (model X.prog X.w) X.A (compareOp .In v u) (EP X pins sg Q) X.xe s) ∧ (Q (.bl (!z)) H → wpAny (model X.prog X.w) X.A (compareOp .NotIn v u) (EP X pins sg Q) X.xe s) := by
  cases b with
  | str t =>
    simp only [inD] at h
    cases a with
    | str w =>
      cases h
      cases Bk.mp r1; cases Bk.mp r2
      exact ⟨fun q => Uy pins s sg H _ _ v u Q I rx ry ⟨_, _, rfl, rfl, q⟩, fun q => va pins s sg H _ _ v u Q I rx ry ⟨_, _, rfl, rfl, q⟩⟩
    | _ => cases h
  | loc n =>
    simp only [inD] at h
    cases e : Ba st n with
    | none =>
      rw [e] at h
      simp only at h
      cases e9 : bh st n with
      | none => rw [e9] at h; exact Oo hK hu I S r1 r2 rx ry h
      | some kvs =>
        rw [e9] at h
        simp only at h
        split at h
        · rename_i hk
          cases h
          obtain ⟨p, xs, h1, _, h2, nv⟩ := om S e9
          obtain ⟨p2, h4, rfl⟩ := bb.mp r2
          rw [h1] at h4; cases h4
          obtain ⟨q9, ik, rfl⟩ := Om hK I r1 hk rx
          obtain rfl : u = Value.ref p := ry
          obtain ⟨hm, _, ys, pr, dd⟩ := Xp hK hw I h2 nv
          have ev : (ay kvs a).isSome = (atKey ys a).isSome := by
            obtain ⟨l1, l2⟩ := ky (k := a) nv pr
            cases z : ay kvs a with
            | none => rw [l2 z]; rfl
            | some x => obtain ⟨_, _, _, e1, _⟩ := l1 x z; rw [e1]; rfl
          rw [ev]
          exact ⟨fun q => wpAny_in_heap (knd := Fc X.prog X.w) (by show X.A.units + 1 + 16 < cLine; omega) ik hm dd ⟨.bl _, H, I.tok _, rfl, q⟩, fun q => PyProof.Rows.wpAny_notIn_heap (knd := Fc X.prog X.w) (by show X.A.units + 1 + 16 < cLine; omega) ik hm dd ⟨.bl _, H, I.tok _, rfl, q⟩⟩
        · cases h
    | some kvs =>
      rw [e] at h
      simp only at h
      split at h
      · rename_i hk
        cases h
        obtain ⟨k, ek⟩ := Ht hk
        obtain ⟨p, ws, h1, _, h2, h3⟩ := fe S e
        obtain ⟨p2, h4, rfl⟩ := bb.mp r2
        rw [h1] at h4; cases h4
        cases Hu r1 ek
        obtain rfl : u = Value.ref p := ry
        have ev : (ay kvs a).isSome = (bw ws k).isSome := by
          obtain ⟨l1, l2⟩ := jc ek h3
          cases z : ay kvs a with
          | none => rw [l2 z]; rfl
          | some x => obtain ⟨v, e1, _⟩ := l1 x z; rw [e1]; rfl
        rw [ev]
        exact ⟨fun q => Wn (by omega) I (Ck.k h2) rx fun s' I' => ⟨.bl _, H, I', rfl, q⟩, fun q => wo (by omega) I (Ck.k h2) rx fun s' I' => ⟨.bl _, H, I', rfl, q⟩⟩
      · cases h
  | _ => exact Oo hK hu I S r1 r2 rx ry h
theorem oq (hK : X.K = g.K) (hw : g.cls.w = X.w) (hu : X.A.units + 64 < cLine) : OpR X (compareOp .In) (oo g false) := by
 rintro pins s sg H x y v u Q I rx ry ⟨rho, st, a, b, z, S, r1, r2, h, q⟩
 exact (Kz hK hw hu I S r1 r2 rx ry h).1 q
theorem Oq {sg : L2.St} {H : Hp} {Q : VK} (q : tE g (.cm .inL a' b') sg H Q) : tOp (oo g false) (tE g a') (tE g b') sg H Q := by
 obtain ⟨rho, st, env, s, n, q⟩ := q
 simp only [aa] at q
 refine two (k := cmD .inL) ?_ s n q
 intro x y u v st rho H Q s rx ry q
 simp only [cmD] at q
 cases e : inD st x y with
 | none => rw [e] at q; exact q.elim
 | some z =>
  rw [e] at q
  exact ⟨rho, st, x, y, z, s, rx, ry, e, (show Ak g rho H Q (.bl _) st from q) _ H rho (.refl _ _) s (az.mpr rfl)⟩
theorem Ot (hK : X.K = g.K) (hw : g.cls.w = X.w) (hu : X.A.units + 64 < cLine) (ha : Sd g X a a') (hb : Sd g X b b') (hm : behindInMarks .In b = false := by rfl) : Sd g X (.Compare a [.In] [b] pos) (.cm .inL a' b') := Ay (ki (oq hK hw hu) ha hb hm) fun sg H Q q => Oq q
theorem Xs (hK : X.K = g.K) (hw : g.cls.w = X.w) (hu : X.A.units + 64 < cLine) (ha : Sd g X a a') (hb : Sd g X b b') (hm : behindInMarks .In b = false := by rfl) : SdT g X (.Compare a [.In] [b] pos) (.cm .inL a' b') := dg (Ep (oq hK hw hu) ha hb hm) fun sg H Q q => Oq (cmT q)
theorem xt {rho : List Addr} {H : Hp} {ds : List D} {vs : List V} {i : Int} {d : D} (r : g.RepL rho H ds vs) (h : atD ds i = some d) : ∃ v, atI vs i = some v ∧ g.Rep rho H d v := by
 unfold atD atI at h
 have hl := r.length
 cases e : ixN ds.length i with
 | none => rw [e] at h; cases h
 | some j =>
  rw [e] at h
  obtain ⟨v, e1, r1⟩ := r.get h
  refine ⟨v, ?_, r1⟩
  unfold atI
  rw [← hl, e]
  exact e1
theorem Xt (hu : X.A.units + 1 < cLine) : IxR X (fun x y H Q => ∃ a v, x = .ref a ∧ Ck H a y (some v) ∧ Q v H) := by
 intro value slice pins s sg H x y v u Q I rx ry h hs
 obtain ⟨a, w, rfl, gt, q⟩ := h
 obtain rfl : v = Value.ref a := rx
 have hT := Wo I gt
 exact PyProof.Rows.tail_any hT PySem.F.slot_dict_getitem.lookup (Wm hu I gt ry fun w' s3 I3 rw' => ⟨w, H, I3, rw', q⟩) hs
def xu (g : G) : R2 := fun x y H Q => ∃ p rho kvs xs k d, x = .ref p ∧ Rd H p (.ext (Ft g.cls.w p xs)) ∧ Bu g.K rho H kvs xs ∧ g.Rep rho H k y ∧ dc k = true ∧ ay kvs k = some d ∧ ∀ v, g.Rep rho H d v → Q v H
theorem Xu (hK : X.K = g.K) (hw : g.cls.w = X.w) (hu : X.A.units + 64 < cLine) : IxR X (xu g) := by
 intro value slice pins s sg H x y v u Q I rx ry h hs
 obtain ⟨p, rho, kvs, xs, k, d, rfl, hH, nv, rk, hk, ed, q⟩ := h
 obtain rfl : v = Value.ref p := rx
 obtain ⟨q9, ik, rfl⟩ := Om hK I rk hk ry
 obtain ⟨hm, _, ys, pr, dd⟩ := Oj hK hw I hH nv
 obtain ⟨q2, w, uu, e1, e2, e3⟩ := (ky (k := k) nv pr).1 d ed
 exact PyProof.Rows.tail_any dd.typeIs PySem.F.slot_dict_getitem.lookup (wpAny_getItem_heap (knd := Fc X.prog X.w) (by show X.A.units + 1 + 16 < cLine; omega) ik dd e1 ⟨w, H, I.tok _, e2, q w e3⟩) hs
theorem ar (hK : X.K = g.K) (hw : g.cls.w = X.w) (hu : X.A.units + 64 < cLine) (ha : Sd g X a a') (hb : Sd g X b b') (hs : Ir b) : Sd g X (.Subscript a b pos) (.ix a' b') := Ay (Kp (wb.or ((Xt (by omega)).or (Xu hK hw hu))) ha hb hs) fun sg H Q q => by
 obtain ⟨rho, st, env, s, n, q⟩ := q
 simp only [aa] at q
 refine two (k := ixD) ?_ s n q
 intro x y u v st rho H Q s rx ry q
 have seq : RQ g (ixS x y st) (Ak g rho H Q) rho H → rIx X.K u v H Q := by
  intro q
  cases y with
  | int i =>
   simp only [ixS] at q
   split at q
   · rename_i xs e
     split at q
     · rename_i d ed
       obtain ⟨p, vs, rfl, sq, rl⟩ := kz s rx e
       obtain ⟨w, e1, r1⟩ := xt rl ed
       have fin : Q w H := (show Ak g rho H Q d st from q) _ H rho (.refl _ _) s r1
       rw [← hK] at sq
       rcases sq with sq | sq
       · exact .inl ⟨p, vs, i, w, rfl, Aq.mp ry, sq, e1, fin⟩
       · exact .inr (.inl ⟨p, vs, i, w, rfl, Aq.mp ry, sq, e1, fin⟩)
     · exact q.elim
   · split at q
     · rename_i z _
       split at q
       · rename_i c ec
         split at q
         · rename_i hz
           exact .inr (.inr ⟨_, i, c, Bk.mp rx, Aq.mp ry, hz, ec, (show Ak g rho H Q _ st from q) _ H rho (.refl _ _) s (Bk.mpr rfl)⟩)
         · exact q.elim
       · exact q.elim
     · exact q.elim
  | _ => exact q.elim
 cases x with
 | loc n =>
  simp only [ixD] at q
  cases e : Ba st n with
  | none =>
   rw [e] at q
   simp only at q
   cases e9 : bh st n with
   | none =>
    rw [e9] at q
    simp only at q
    cases e8 : gv st n with
    | none => rw [e8] at q; exact .inl (seq q)
    | some kvs =>
     rw [e8] at q
     simp only at q
     split at q
     · rename_i hk
       split at q
       · rename_i d ed
         obtain ⟨p, xs, o, h1, _, h2, nv⟩ := xr s e8
         obtain ⟨p2, h4, rfl⟩ := bb.mp rx
         rw [h1] at h4; cases h4
         exact .inr (.inr ⟨p, rho, kvs, xs, y, d, rfl, .inr ⟨o, h2⟩, nv, ry, hk, ed, fun w rw1 => (show Ak g rho H Q d st from q) _ H rho (.refl _ _) s rw1⟩)
       · exact q.elim
     · exact q.elim
   | some kvs =>
    rw [e9] at q
    simp only at q
    split at q
    · rename_i hk
      split at q
      · rename_i d ed
        obtain ⟨p, xs, h1, _, h2, nv⟩ := om s e9
        obtain ⟨p2, h4, rfl⟩ := bb.mp rx
        rw [h1] at h4; cases h4
        exact .inr (.inr ⟨p, rho, kvs, xs, y, d, rfl, .inl h2, nv, ry, hk, ed, fun w rw1 => (show Ak g rho H Q d st from q) _ H rho (.refl _ _) s rw1⟩)
      · exact q.elim
    · exact q.elim
  | some kvs =>
   rw [e] at q
   simp only at q
   split at q
   · rename_i hk
     split at q
     · rename_i d ed
       obtain ⟨k, ek⟩ := Ht hk
       obtain ⟨p, ws, h1, _, h2, h3⟩ := fe s e
       obtain ⟨p2, h4, rfl⟩ := bb.mp rx
       rw [h1] at h4; cases h4
       cases Hu ry ek
       obtain ⟨w, e1, e2⟩ := (jc ek h3).1 d ed
       exact .inr (.inl ⟨p, w, rfl, by rw [← e1]; exact Ck.k h2, (show Ak g rho H Q d st from q) _ H rho (.refl _ _) s e2⟩)
     · exact q.elim
   · exact q.elim
 | _ => exact .inl (seq q)
end DD
namespace DD
open PySem PySem.Spec L2
variable {g : G} {X : Cx} {a b c : Expr} {a' b' c' : E} {pos : Pos} {rest es : List Expr} {es' : Es}
theorem Fe {op} (h : Sd g X a a') : Sd g X (.BoolOp op [a] pos) a' := ua h
theorem Dz (ha : Sd g X a a') (hb : Sd g X (.BoolOp .And (b :: rest) pos) b') : Sd g X (.BoolOp .And (a :: b :: rest) pos) (.andE a' b') := Ay (Ua ha hb) fun sg H Q q => by
 obtain ⟨rho, st, env, s, n, q⟩ := q
 simp only [aa] at q
 refine step s n q fun x st1 u H1 r1 k1 s1 n1 rp q1 => ?_
 cases x with
 | bl t =>
  cases t with
  | true => exact ⟨true, az.mp rp, Fo ⟨r1, st1, env, s1, n1, RQ.mono (.refl _ _) q1 fun _ _ p => p.mono k1⟩⟩
  | false => exact ⟨false, az.mp rp, fo ((show Ak g rho H Q (.bl false) st1 from q1) _ H1 r1 k1 s1 (az.mpr rfl))⟩
 | _ => exact q1.elim
theorem xv (ha : Sd g X a a') : Sd g X (.UnaryOp .Not a pos) (.notE a') := Ay (ub ha) fun sg H Q q => by
 obtain ⟨rho, st, env, s, n, q⟩ := q
 simp only [aa] at q
 refine step s n q fun x st1 u H1 r1 k1 s1 n1 rp q1 => ?_
 cases x with
 | bl t => exact ⟨t, az.mp rp, (show Ak g rho H Q (.bl (!t)) st1 from q1) _ H1 r1 k1 s1 (az.mpr rfl)⟩
 | _ => exact q1.elim
theorem ou (hc : SdT g X c c') (ha : Sd g X a a') (hb : Sd g X b b') : Sd g X (.IfExp c a b pos) (.ifE c' a' b') := Ay (Ub hc ha hb) fun sg H Q q => by
 obtain ⟨rho, st, env, s, n, q⟩ := q
 simp only [aa] at q
 refine stepT s n q fun t st1 H1 r1 k1 s1 n1 q1 => ?_
 cases t with
 | true => exact Fo ⟨r1, st1, env, s1, n1, RQ.mono (.refl _ _) q1 fun _ _ p => p.mono k1⟩
 | false => exact fo ⟨r1, st1, env, s1, n1, RQ.mono (.refl _ _) q1 fun _ _ p => p.mono k1⟩
theorem bts {r : List V → Hp → VK → Prop} {f : Bt} (hr : ∀ ds vs st rho H Q, g.Sto rho st H → g.RepL rho H ds vs → RQ g (btD f ds st) (Ak g rho H Q) rho H → r vs H Q) {sg : L2.St} {H : Hp} {Q : VK} (q : tE g (.bt f es') sg H Q) : tCB r (tEs g es') sg H Q := by
 obtain ⟨rho, st, env, s, n, q⟩ := q
 simp only [aa] at q
 refine dq s n q fun ds st1 vs H1 r1 k1 s1 n1 rps q1 => ?_
 exact hr ds vs st1 r1 H1 Q s1 rps (RQ.mono (.refl _ _) q1 fun _ _ p => p.mono k1)
theorem Fu {rho : List Addr} {H : Hp} {d : D} {vs : List V} (r : g.RepL rho H [d] vs) : ∃ v, vs = [v] ∧ g.Rep rho H d v := by
 simp only [RepL] at r
 obtain ⟨v, t, rfl, r1, rfl⟩ := r
 exact ⟨v, rfl, r1⟩
theorem jd {f : Bt} {ds : List D} {st : Sto} (hf : f ≠ .minB ∧ f ≠ .maxB) {ok : D → Sto → Prop} {rho : List Addr} {H : Hp} (q : RQ g (btD f ds st) ok rho H) : ∃ d, ds = [d] := by
 cases ds with
 | nil => cases f <;> exact q.elim
 | cons d t =>
  cases t with
  | nil => exact ⟨d, rfl⟩
  | cons e u =>
   exfalso
   cases f <;> first | exact hf.1 rfl | exact hf.2 rfl | (cases d <;> exact q.elim)
theorem Ou {e : Expr} {p : Pos} (hg : Gl X "abs") (hm : X.mg "abs" = none) (ha : SdL g X (e :: es) es') (he : starEach (e :: es) X.env = (false, eval e X.env) :: starEach es X.env := by rfl) (hpl : (backTo pos (starEach es X.env)).any (·.1) = false := by rfl) :
    Sd g X (.Call (.Name "abs" p) (e :: es) [] pos) (.bt .absB es') := Ay (ir Vd hg hm rfl ha (by decide) (by decide) he hpl) fun sg H Q q => by
  refine bts (f := .absB) (fun ds vs st rho H Q s r q => ?_) q
  obtain ⟨d, rfl⟩ := jd ⟨by decide, by decide⟩ q
  obtain ⟨v, rfl, r1⟩ := Fu r
  cases d with
  | int i => cases Aq.mp r1; exact ⟨i, rfl, q _ H rho (.refl _ _) s (Aq.mpr rfl)⟩
  | _ => exact q.elim
theorem cx {e : Expr} {p : Pos} (hK : X.K = g.K) (hg : Gl X "len") (hm : X.mg "len" = none) (ha : SdL g X (e :: es) es') (he : starEach (e :: es) X.env = (false, eval e X.env) :: starEach es X.env := by rfl) (hpl : (backTo pos (starEach es X.env)).any (·.1) = false := by rfl) :
    Sd g X (.Call (.Name "len" p) (e :: es) [] pos) (.bt .lenB es') := Ay (ir (cu.or Wc Wd) hg hm rfl ha (by decide) (by decide) he hpl) fun sg H Q q => by
  refine bts (f := .lenB) (fun ds vs st rho H Q s r q => ?_) q
  obtain ⟨d, rfl⟩ := jd ⟨by decide, by decide⟩ q
  obtain ⟨v, rfl, r1⟩ := Fu r
  have seq : ∀ xs, Dw st d = some xs → Ak g rho H Q (.int xs.length) st → ∃ p ys, [v] = [V.ref p] ∧ (SqL X.K H p ys ∨ SqT X.K H p ys) ∧ Q (.int ys.length) H := by
    intro xs e q
    obtain ⟨p, ws, rfl, sq, rl⟩ := kz s r1 e
    refine ⟨p, ws, rfl, by rw [hK]; exact sq, ?_⟩
    rw [← rl.length]
    exact q _ H rho (.refl _ _) s (Aq.mpr rfl)
  cases d with
  | tup xs => exact .inl (seq xs rfl q)
  | loc n =>
    simp only [btD] at q
    split at q
    · rename_i xs e
      exact .inl (seq xs e q)
    · exact q.elim
  | str z =>
    simp only [btD] at q
    split at q
    · rename_i hz
      cases Bk.mp r1
      exact .inr ⟨z, rfl, hz, (show Ak g rho H Q (.int _) st from q) _ H rho (.refl _ _) s (Aq.mpr rfl)⟩
    · exact q.elim
  | _ => exact q.elim
theorem Hv {e : Expr} {p : Pos} (hK : X.K = g.K) (hg : Gl X "list") (hm : X.mg "list" = none) (ha : SdL g X (e :: es) es') (he : starEach (e :: es) X.env = (false, eval e X.env) :: starEach es X.env := by rfl) (hpl : (backTo pos (starEach es X.env)).any (·.1) = false := by rfl) :
    Sd g X (.Call (.Name "list" p) (e :: es) [] pos) (.bt .listB es') := Ay (vt we hg hm rfl ha (by decide) (by decide) he hpl) fun sg H Q q => by
  refine bts (f := .listB) (fun ds vs st rho H Q s r q => ?_) q
  obtain ⟨d, rfl⟩ := jd ⟨by decide, by decide⟩ q
  obtain ⟨v, rfl, r1⟩ := Fu r
  simp only [btD] at q
  split at q
  · rename_i xs e
    obtain ⟨p, ws, rfl, sq, rl⟩ := kz s r1 e
    exact ⟨p, ws, rfl, by rw [hK]; exact sq, fun l hl => Hq s rl hl q⟩
  · exact q.elim
def spD (K : PySem.W.Frag) (cls : CW) (np : Nat) (run : List D → Sto → Res D) : Sp := fun vs H Q Ex => vs.length = np ∧ ∃ rho st ds, StoRep K cls rho st H ∧ RepL K rho H ds vs ∧
 match run ds st with
 | .ok d st' => ∀ v H' rho', Keep K rho H rho' H' → StoRep K cls rho' st' H' → Rep K rho' H' d v → Q v H'
 | .exc k st' => ∀ H' rho', Keep K rho H rho' H' → StoRep K cls rho' st' H' → Ex (.ref (cls k)) none H'
 | .bad => False
theorem ai {k f : Nat} {fa : Addr} {fd : FuncData} {ps : List Str} {x : Str} {p : Pos} {e : Expr} {dv : List D} {dvs : List V} {ds : List Value} {np : Nat}
    (F : FnOk X.prog X.w X.K X.mg X.base (CXd X.prog X.w) k fa fd ps (spD g.K g.cls np (g.call f))) (hr : Room k X.A) (hg : Gl X x) (hm : X.mg x = some (.ref fa)) (hk : PySem.W.keepIn X.K (.ref fa) = true) (hb : Binds X.K fd ps ds) (hd : Vals dvs ds)
    (hdv : ∀ rho H, g.RepL rho H dv dvs) (hx : Passes (CXd X.prog X.w) X g.xk) (hl : ∀ ds st, ds.length ≠ np → g.call f ds st = .bad) (ha : SdL g X (e :: es) es') (hdb : (x == ("__debug__" : Str)) = false := by decide)
    (he : starEach (e :: es) X.env = (false, eval e X.env) :: starEach es X.env := by rfl) (hpl : (backTo pos (starEach es X.env)).any (·.1) = false := by rfl) : Sd g X (.Call (.Name x p) (e :: es) [] pos) (.call f es' dv) :=
  Ay (Vp F hr hg hm hk hb hd hx ha hdb he hpl) fun sg H Q q => by
    obtain ⟨rho, st, env, s, n, q⟩ := q
    simp only [aa] at q
    refine dq s n q fun ds st1 vs H1 r1 k1 s1 n1 rps q1 => ?_
    have rr := rps.append (hdv r1 H1)
    have hlen : (ds ++ dv).length = np := Decidable.byContradiction fun z => by rw [hl _ _ z] at q1; exact q1
    refine ⟨by rw [← rr.length]; exact hlen, r1, st1, ds ++ dv, s1, rr, ?_⟩
    revert q1
    cases g.call f (ds ++ dv) st1 with
    | ok d st' => exact fun q1 v H' rho' k s' r => (show Ak g rho H Q d st' from q1) v H' rho' (k1.trans k) s' r
    | exc c st' => exact fun q1 H' rho' k s' => q1 H' rho' k s'
    | bad => exact fun q1 => q1
theorem la (ha : SdT g X a a') : PW X (.BoolOp .And [a] pos) (tT g a') := tu ha
theorem Bx (ha : SdT g X a a') : PW X (.BoolOp .Or [a] pos) (tT g a') := Tu ha
theorem Ov {t t' : TT} {e : Expr} (h : PW X e t) (hi : ∀ sg H Q, t' sg H Q → t sg H Q) : PW X e t' := fun whole pins s sg H Q I q => h whole pins s sg H Q I (hi _ _ _ q)
theorem La (ha : SdT g X a a') (hb : PW X (.BoolOp .And (b :: rest) pos) (tT g b')) : PW X (.BoolOp .And (a :: b :: rest) pos) (tT g (.andE a' b')) := Ov (Tv ha hb) fun sg H Q q => by
 obtain ⟨rho, st, env, s, n, q⟩ := q
 simp only [Aj] at q
 refine stepT s n q fun t st1 H1 r1 k1 s1 n1 q1 => ?_
 cases t with
 | true => exact Fo ⟨r1, st1, env, s1, n1, RQ.mono (.refl _ _) q1 fun _ _ p => p.mono k1⟩
 | false => exact fo ((show Cq g rho H Q false st1 from q1) H1 r1 k1 s1)
theorem bp (ha : SdT g X a a') (hb : PW X (.BoolOp .Or (b :: rest) pos) (tT g b')) : PW X (.BoolOp .Or (a :: b :: rest) pos) (tT g (.orE a' b')) := Ov (tw ha hb) fun sg H Q q => by
 obtain ⟨rho, st, env, s, n, q⟩ := q
 simp only [Aj] at q
 refine stepT s n q fun t st1 H1 r1 k1 s1 n1 q1 => ?_
 cases t with
 | true => exact Fo ((show Cq g rho H Q true st1 from q1) H1 r1 k1 s1)
 | false => exact fo ⟨r1, st1, env, s1, n1, RQ.mono (.refl _ _) q1 fun _ _ p => p.mono k1⟩
theorem Bm (ha : SdT g X a a') : SdT g X (.UnaryOp .Not a pos) (.notE a') := dg (Tw ha) fun sg H Q q => by
 obtain ⟨rho, st, env, s, n, q⟩ := q
 simp only [Aj] at q
 refine stepT s n q fun t st1 H1 r1 k1 s1 n1 q1 => ?_
 exact (show Cq g rho H Q (!t) st1 from q1) H1 r1 k1 s1
theorem Xv {rho : List Addr} {st : Sto} {H : Hp} (s : g.Sto rho st H) {d : D} {v : V} {k : Bool} (r : g.Rep rho H d v) (h : truth st d = some k) : kj g.K v H k := by
 cases d with
 | non => cases Cr.mp r; simp [truth] at h; subst h; rfl
 | bl b => cases az.mp r; simp [truth] at h; subst h; rfl
 | int i => cases Aq.mp r; simp only [truth] at h; cases h; rfl
 | str x =>
  cases Bk.mp r
  simp only [truth] at h
  split at h
  · rename_i z; cases h; exact ⟨z, rfl⟩
  · cases h
 | tup ds =>
  obtain ⟨a, vs, rfl, q, rl⟩ := br.mp r
  simp only [truth] at h; cases h
  have hl := rl.length
  exact .inr (.inl ⟨vs, q, by cases ds <;> cases vs <;> simp_all⟩)
 | loc n =>
  simp only [truth] at h
  cases el : Am st n with
  | none => rw [el] at h; cases h
  | some ds =>
   rw [el] at h; cases h
   obtain ⟨a, vs, h1, q, rl⟩ := Dg s el
   obtain ⟨a2, h2, rfl⟩ := bb.mp r
   rw [h1] at h2; cases h2
   have hl := rl.length
   exact .inl ⟨vs, q, by cases ds <;> cases vs <;> simp_all⟩
theorem Bl (hK : X.K = g.K) (ha : Sd g X a a') (hev : ∀ env st, Aj g.tab g.call a' env st = (aa g.tab g.call a' env st).bind fun d st => match truth st d with | some b => .ok b st | none => .bad)
    (he : ∀ whole, isTrue a X.env whole = (do let v ← whole; standAt a.pos; holding [v] (truthy v))) : SdT g X a a' := dg (Vc ha he) fun sg H Q q => by
  obtain ⟨rho, st, env, s, n, q⟩ := q
  rw [hev] at q
  refine step s n q fun d st1 v H1 r1 k1 s1 n1 rp q1 => ?_
  cases e : truth st1 d with
  | none => rw [e] at q1; exact q1.elim
  | some k =>
    rw [e] at q1
    exact ⟨k, by rw [hK]; exact Xv s1 rp e, (show Cq g rho H Q k st1 from q1) H1 r1 k1 s1⟩
end DD
namespace DD
open PySem PySem.Spec L2
variable {g : G} {X : Cx} {a b c : Expr} {a' b' c' : E} {pos : Pos} {rest es : List Expr} {es' : Es}
def kb (t T : String) : Option Bool := if ((Value.type t == Value.type T) = true) then some true else if PySem.W.kitMeta T = true then (fastBuiltinMro t).map (·.contains (.type T)) else none
theorem xw (K : PySem.W.Frag) (t T : String) : PySem.W.kitOne K (.type t) (.type T) = kb t T := rfl
theorem Xw (K : PySem.W.Frag) {t T : String} (ht : t ∈ ["NoneType", "bool", "int", "str", "tuple", "list", "dict"]) (hT : T ∈ ["bool", "int", "tuple", "list", "str", "dict"]) : PySem.W.kitOne K (.type t) (.type T) = subB t T := by
 rw [xw]
 simp only [List.mem_cons, List.mem_nil_iff, or_false] at ht hT
 rcases ht with rfl | rfl | rfl | rfl | rfl | rfl | rfl <;> rcases hT with rfl | rfl | rfl | rfl | rfl | rfl <;> first | rfl | kernel_rfl | decide +kernel
def lb (g : G) (K : PySem.W.Frag) (T : Ty) (u : Value) : List V → Hp → VK → Prop := fun xs H Q => ∃ rho st d x cv t k, xs = [x, cv] ∧ RelV cv u ∧ g.Sto rho st H ∧ g.Rep rho H d x ∧ Et st d = some t ∧ Ey g.tab t T = some k ∧ Q (.bl k) H
theorem xx {T : Ty} {u : Value} (hK : X.K = g.K) (hu : ∀ v w, RelV v u → RelV v w → w = u) (hB : ∀ t k, t ∈ ["NoneType", "bool", "int", "str", "tuple", "list", "dict"] → Ey g.tab (.b t) T = some k → PySem.W.kitOne X.K (.type t) u = some k)
    (hO : ∀ n k, g.tab n T = some k → ExcC X.K (g.cls n) ∧ PySem.W.kitOne X.K (.ref (g.cls n)) u = some k) : cu X (.builtin "isinstance") (lb g X.K T u) := by
  intro pins s sg H xs us Q I rv h
  obtain ⟨rho, st, d, x, cv, t, k, rfl, rc, S, r, ht, hs, q⟩ := h
  obtain ⟨u1, u2, rfl, ru1, ru2⟩ := vals2 rv
  obtain rfl := hu cv u2 rc ru2
  have fin : ∀ tk, EP X pins sg Q (.bool k) { s with toks := tk } := fun tk => ⟨.bl k, H, I.tok tk, rfl, q⟩
  cases d with
  | non =>
    cases Cr.mp r; cases ru1; cases ht
    exact PySem.W.kia_one PySem.W.kitx_none I.kIn True.intro (hB _ _ (by simp) hs) (fun z => nomatch z) fin
  | bl y =>
    cases az.mp r; cases ru1; cases ht
    exact PySem.W.kia_one PySem.W.kitx_bool I.kIn True.intro (hB _ _ (by simp) hs) (fun z => nomatch z) fin
  | int i =>
    cases Aq.mp r; obtain ⟨_, rfl⟩ := ru1; cases ht
    exact PySem.W.kia_one PySem.W.kitx_int I.kIn True.intro (hB _ _ (by simp) hs) (fun z => nomatch z) fin
  | str i =>
    cases Bk.mp r; obtain ⟨_, rfl⟩ := ru1; cases ht
    exact PySem.W.kia_one PySem.W.kitx_str I.kIn True.intro (hB _ _ (by simp) hs) (fun z => nomatch z) fin
  | tup ds =>
    obtain ⟨p, vs, rfl, sq, rl⟩ := br.mp r
    cases ru1; cases ht
    rw [← hK] at sq
    obtain ⟨its, rvs, ⟨o, ho, hc, n', hd⟩, _⟩ := I.tuple sq
    exact PySem.W.kia_one PySem.W.kitx_tuple I.kIn ⟨o, ho, hc⟩ (hB _ _ (by simp) hs) (fun z => nomatch z) fin
  | loc n =>
    obtain ⟨p, hp, rfl⟩ := bb.mp r
    cases ru1
    simp only [Et] at ht
    cases ec : st[n]? with
    | none => rw [ec] at ht; cases ht
    | some cl =>
      rw [ec] at ht
      have cr := S.cells n p cl hp ec
      cases cl with
      | lst ds =>
        cases ht
        obtain ⟨vs, hH, _⟩ := cr
        obtain ⟨_, _, n', _, h1⟩ := (show bg X.prog X.w H s.heap p (.lst vs) from I.hok p _ hH)
        exact PySem.W.kia_one PySem.W.kitx_list I.kIn ⟨_, h1, rfl⟩ (hB _ _ (by simp) hs) (fun z => nomatch z) fin
      | frz ds =>
        cases ht
        obtain ⟨vs, hH, _⟩ := cr
        rcases hH with ⟨o, hH⟩ | ⟨o, its, n', hk, hc, _⟩
        · obtain ⟨_, _, _, n', _, h1⟩ := (show bg X.prog X.w H s.heap p (.frz o (.lst vs)) from I.hok p _ hH)
          exact PySem.W.kia_one PySem.W.kitx_list I.kIn ⟨_, h1, rfl⟩ (hB _ _ (by simp) hs) (fun z => nomatch z) fin
        · rw [← hK] at hk
          exact PySem.W.kia_one PySem.W.kitx_list I.kIn ⟨o, I.kIn _ _ hk, hc⟩ (hB _ _ (by simp) hs) (fun z => nomatch z) fin
      | dct kvs =>
        cases ht
        obtain ⟨ws, hH, _⟩ := cr
        obtain ⟨_, _, vs, _, o, es, ep, h1, h2, _⟩ := (show bg X.prog X.w H s.heap p (.dK ws) from I.hok p _ hH)
        exact PySem.W.kia_one PySem.W.kitx_dict I.kIn ⟨o, h1, h2.1⟩ (hB _ _ (by simp) hs) (fun z => nomatch z) fin
      | ins m fs => cases ht
      | dcn kvs =>
        cases ht
        obtain ⟨ws, hH, _⟩ := cr
        obtain ⟨⟨_, _, _, o, es, ep, h1, h2, _⟩, _⟩ := (show bg X.prog X.w H s.heap p (.ext _) from I.hok p _ hH)
        exact PySem.W.kia_one PySem.W.kitx_dict I.kIn ⟨o, h1, h2.1⟩ (hB _ _ (by simp) hs) (fun z => nomatch z) fin
      | dcf kvs =>
        cases ht
        obtain ⟨ws, u, hH, _⟩ := cr
        obtain ⟨_, _, _, vs, _, o, es, ep, h1, h2, _⟩ := (show bg X.prog X.w H s.heap p (.frz u (.dK ws)) from I.hok p _ hH)
        exact PySem.W.kia_one PySem.W.kitx_dict I.kIn ⟨o, h1, h2.1⟩ (hB _ _ (by simp) hs) (fun z => nomatch z) fin
      | dcg kvs =>
        cases ht
        obtain ⟨ws, u, hH, _⟩ := cr
        obtain ⟨_, ⟨_, _, _, o, es, ep, h1, h2, _⟩, _⟩ := (show bg X.prog X.w H s.heap p (.frz u (.ext _)) from I.hok p _ hH)
        exact PySem.W.kia_one PySem.W.kitx_dict I.kIn ⟨o, h1, h2.1⟩ (hB _ _ (by simp) hs) (fun z => nomatch z) fin
      | fnc i => cases ht
      | exn m =>
        cases ht
        have hH : H p = some (.ext (Ku p (.ref (g.cls m)))) := cr
        obtain ⟨⟨o, ws, h1, h2, h3⟩, _⟩ := (show bg X.prog X.w H s.heap p (.ext (Ku p (.ref (g.cls m)))) from I.hok p _ hH)
        obtain ⟨x1, x2⟩ := hO m k hs
        exact PySem.W.kia_one (xn x1) I.kIn ⟨o, h1, h2⟩ x2 (fun z => nomatch z) fin
end DD
namespace DD
open PySem PySem.Spec L2
variable {g : G} {X : Cx} {a b c : Expr} {a' b' c' : E} {pos : Pos} {rest es : List Expr} {es' : Es}
theorem Xx {T : Ty} {u : Value} {cv : V} (hc : RelV cv u) {sg : L2.St} {H : Hp} {Q : VK} (q : tE g (.isi a' T) sg H Q) : tCB (lb g X.K T u) (Kl (tE g a') (Kl (tC cv) Nd)) sg H Q := by
 obtain ⟨rho, st, env, s, n, q⟩ := q
 simp only [aa] at q
 refine step s n q fun d st1 v H1 r1 k1 s1 n1 rp q1 => ?_
 show lb g X.K T u [v, cv] H1 Q
 cases et : Et st1 d with
 | none => rw [et] at q1; exact q1.elim
 | some t =>
  rw [et] at q1
  simp only [Option.bind_some] at q1
  cases ek : Ey g.tab t T with
  | none => rw [ek] at q1; exact q1.elim
  | some k =>
   rw [ek] at q1
   exact ⟨r1, st1, d, v, cv, t, k, rfl, hc, s1, rp, et, ek, (show Ak g rho H Q (.bl k) st1 from q1) _ H1 r1 k1 s1 (az.mpr rfl)⟩
theorem cg {T : String} {x : Str} {p p2 : Pos} (hK : X.K = g.K) (hT : T ∈ ["bool", "int", "tuple", "list", "str", "dict"]) (hO : ∀ n, g.tab n (.b T) = none) (hg : Gl X "isinstance") (hm : X.mg "isinstance" = none) (hg2 : Gl X x) (hm2 : X.mg x = none) (hv : bootBuiltins x = some (.type T)) (ha : Sd g X a a')
    (hn : x ≠ "__name__" := by decide) (hd : (x == ("__debug__" : Str)) = false := by decide) (he : starEach [a, .Name x p2] X.env = (false, eval a X.env) :: starEach [.Name x p2] X.env := by rfl) (he2 : starEach [.Name x p2] X.env = (false, eval (.Name x p2) X.env) :: starEach [] X.env := by rfl) (hpl : (backTo pos (starEach [.Name x p2] X.env)).any (·.1) = false := by rfl) :
    Sd g X (.Call (.Name "isinstance" p) [a, .Name x p2] [] pos) (.isi a' (.b T)) := by
  have hc := xx (X := X) (T := .b T) (u := .type T) hK (fun v w h1 h2 => by cases v <;> first | (cases h1; exact h2) | (obtain ⟨_, z⟩ := h1; cases z) | cases h1) (fun t k ht hs => by rw [Xw X.K ht hT]; exact hs) (fun n k h => by rw [hO n] at h; cases h)
  exact Ay (ir hc hg hm rfl (Hm ha (Hm (Tq (v := .ty T) hg2 hm2 hv rfl hn hd) km he2) he) (by decide) (by decide) he hpl) fun sg H Q q => Xx (cv := .ty T) rfl q
end DD
namespace DD
open PySem PySem.Spec L2
variable {g : G} {X : Cx} {a b c : Expr} {a' b' c' : E} {pos : Pos} {rest es : List Expr} {es' : Es} {F : Nat}
def Az (g : G) (rho : List Addr) (H : Hp) (D : Ends) (f : Fl) (st : Sto) : Prop := match f with
 | .next env => ∀ sg H' rho', g.Keep rho H rho' H' → g.Sto rho' st H' → g.Env rho' H' env sg → D.nx sg H'
 | .brk env => ∀ sg H' rho', g.Keep rho H rho' H' → g.Sto rho' st H' → g.Env rho' H' env sg → D.bk sg H'
 | .cont env => ∀ sg H' rho', g.Keep rho H rho' H' → g.Sto rho' st H' → g.Env rho' H' env sg → D.ct sg H'
 | .ret d => ∀ v H' rho', g.Keep rho H rho' H' → g.Sto rho' st H' → g.Rep rho' H' d v → D.rt v H'
theorem Az.mono {rho rho' : List Addr} {H H' : Hp} {D : Ends} {f : Fl} {st : Sto} (k : g.Keep rho H rho' H') (h : Az g rho H D f st) : Az g rho' H' D f st := by
 cases f <;> exact fun x H2 r2 k2 => h x H2 r2 (k.trans k2)
def tS (g : G) (F : Nat) (s : S) : TS := fun D sg H => ∃ rho st env, g.Sto rho st H ∧ g.Env rho H env sg ∧ RQ g (Al g.tab g.call F s env st) (Az g rho H D) rho H
def tSs (g : G) (F : Nat) (s : Ss) : TS := fun D sg H => ∃ rho st env, g.Sto rho st H ∧ g.Env rho H env sg ∧ RQ g (An g.tab g.call F s env st) (Az g rho H D) rho H
def SdS (g : G) (X : Cx) (F : Nat) (st : Stmt) (s : S) : Prop := PS X st (tS g F s)
def Dc (g : G) (X : Cx) (F : Nat) (st : List Stmt) (s : Ss) : Prop := PSs X st (tSs g F s)
theorem cy {t t' : TS} {e : Stmt} (h : PS X e t) (hi : ∀ D sg H, t' D sg H → t D sg H) : PS X e t' := fun pins s sg H D I q => h pins s sg H D I (hi _ _ _ q)
theorem ow {t t' : TS} {e : List Stmt} (h : PSs X e t) (hi : ∀ D sg H, t' D sg H → t D sg H) : PSs X e t' := fun pins s sg H D I q => h pins s sg H D I (hi _ _ _ q)
theorem Ae : Dc g X F [] .nil := ow Ud fun D sg H q => by
 obtain ⟨rho, st, env, s, n, q⟩ := q
 exact (show Az g rho H D (.next env) st from q) sg H rho (.refl _ _) s n
theorem Ab {s1 : Stmt} {r1 : List Stmt} {s1' : S} {r1' : Ss} (h : SdS g X F s1 s1') (t : Dc g X F r1 r1') : Dc g X F (s1 :: r1) (.cons s1' r1') := ow (ue h t) fun D sg H q => by
 obtain ⟨rho, st, env, s, n, q⟩ := q
 refine ⟨rho, st, env, s, n, ?_⟩
 simp only [An] at q
 revert q
 cases Al g.tab g.call F s1' env st with
 | bad => exact fun q => q
 | exc c st1 => exact fun q => q
 | ok f st1 =>
  simp only [bc]
  cases f with
  | next env1 => exact fun q sg1 H1 rho1 k1 s1 n1 => ⟨rho1, st1, env1, s1, n1, RQ.mono k1 q fun f st p => Az.mono k1 p⟩
  | ret d => exact fun q => q
  | brk env1 => exact fun q => q
  | cont env1 => exact fun q => q
theorem bf {i : Nat} {x : Str} {e : Expr} {e' : E} {pos' : Pos} (hN : X.N.Nodup) (hi : X.N[i]? = some x) (hx : Loc X.env.scope x) (he : Sd g X e e') (hs : swapsWith e (some (.Name x pos')) pos.line X.env = pure false := by rfl) (hf : X.fn x = true ∨ X.env.scope.names.lookup x = some .local := by first | exact .inl rfl | exact .inr rfl | assumption) :
    SdS g X F (.Assign [.Name x pos'] e pos) (.set i e') := cy (Ui hN hi hx he hs hf) fun D sg H q => by
  obtain ⟨rho, st, env, s, n, q⟩ := q
  simp only [Al] at q
  refine step s n q fun d st1 v H1 r1 k1 s1 n1 rp q1 => ?_
  split at q1
  · exact (show Az g rho H D (.next _) st1 from q1) _ H1 r1 k1 s1 (n1.set i rp)
  · exact q1.elim
theorem aq {e : Expr} {e' : E} (he : Sd g X e e') : SdS g X F (.Return (some e) pos) (.ret e') := cy (Ug he) fun D sg H q => by
 obtain ⟨rho, st, env, s, n, q⟩ := q
 simp only [Al] at q
 refine step s n q fun d st1 v H1 r1 k1 s1 n1 rp q1 => ?_
 exact (show Az g rho H D (.ret d) st1 from q1) v H1 r1 k1 s1 rp
theorem Co {e : Expr} {e' : E} (he : Sd g X e e') (hs : swapsWith e none pos.line X.env = pure false := by rfl) : SdS g X F (.Expr e pos) (.ex e') := cy (uf he hs) fun D sg H q => by
 obtain ⟨rho, st, env, s, n, q⟩ := q
 simp only [Al] at q
 refine step s n q fun d st1 v H1 r1 k1 s1 n1 rp q1 => ?_
 exact (show Az g rho H D (.next env) st1 from q1) sg H1 r1 k1 s1 n1
theorem ba {c : Expr} {c' : E} {x y : List Stmt} {x' y' : Ss} (hc : SdT g X c c') (hx : Dc g X F x x') (hy : Dc g X F y y') : SdS g X F (.If c x y pos) (.ifS c' x' y') := cy (Uh hc hx hy) fun D sg H q => by
 obtain ⟨rho, st, env, s, n, q⟩ := q
 simp only [Al] at q
 refine stepT s n q fun t st1 H1 r1 k1 s1 n1 q1 => ?_
 cases t with
 | true => exact Fo ⟨r1, st1, env, s1, n1, RQ.mono (.refl _ _) q1 fun _ _ p => p.mono k1⟩
 | false => exact fo ⟨r1, st1, env, s1, n1, RQ.mono (.refl _ _) q1 fun _ _ p => p.mono k1⟩
theorem Lb {c : Expr} {c' : E} {x : List Stmt} {x' : Ss} (hp : PassesOwn (model X.prog X.w) X.A X.env X.xe) (hc : SdT g X c c') (hx : Dc g X F x x') : SdS g X F (.While c x [] pos) (.whileS c' x') := cy (Ul hp hc hx) fun D sg H q => by
 obtain ⟨rho, st, env, s, n, q⟩ := q
 simp only [Al] at q
 refine ⟨fun m sg H => ∃ rho st env, g.Sto rho st H ∧ g.Env rho H env sg ∧ RQ g (whileLoop (Aj g.tab g.call c') (An g.tab g.call F x') m env st) (Az g rho H D) rho H, ⟨F, rho, st, env, s, n, q⟩, ?_⟩
 rintro m sg H ⟨rho, st, env, s, n, q⟩
 cases m with
 | zero => exact q.elim
 | succ m =>
  simp only [whileLoop] at q
  refine stepT s n q fun t st1 H1 r1 k1 s1 n1 q1 => ?_
  cases t with
  | false =>
   refine fo ?_
   exact (show Az g rho H D (.next env) st1 from q1) sg H1 r1 k1 s1 n1
  | true =>
   refine Fo ⟨fun sg H => ∃ rho st env, g.Sto rho st H ∧ g.Env rho H env sg ∧ RQ g (whileLoop (Aj g.tab g.call c') (An g.tab g.call F x') m env st) (Az g rho H D) rho H, fun sg' H' h => ⟨m, Nat.lt_succ_self m, h⟩, r1, st1, env, s1, n1, ?_⟩
   revert q1
   cases An g.tab g.call F x' env st1 with
   | bad => exact fun q => q
   | exc c st2 => exact fun q => q
   | ok f st2 =>
    simp only [bc]
    cases f with
    | next env2 => exact fun q sg2 H2 r2 k2 s2 n2 => ⟨r2, st2, env2, s2, n2, RQ.mono k2 q fun f st p => Az.mono (k1.trans k2) p⟩
    | cont env2 => exact fun q sg2 H2 r2 k2 s2 n2 => ⟨r2, st2, env2, s2, n2, RQ.mono k2 q fun f st p => Az.mono (k1.trans k2) p⟩
    | brk env2 => exact fun q => Az.mono (f := .next env2) k1 q
    | ret d => exact fun q => Az.mono (f := .ret d) k1 q
end DD
namespace DD
open PySem PySem.Spec L2
variable {g : G} {X : Cx} {a b c : Expr} {a' b' c' : E} {pos : Pos} {rest es : List Expr} {es' : Es} {F : Nat}
def gs : List Nat → TGs
 | [] => Kg
 | i :: r => Io (Im i) (gs r)
def tg (K : PySem.W.Frag) (is : List Nat) (one : Bool) : TG := if one then (match is with | [i] => Im i | _ => fun _ _ _ _ => False) else kh K is.length (gs is)
theorem Ow {rho : List Addr} {H : Hp} {Q : L2.St → Hp → Prop} : ∀ {is : List Nat} {ds : List D} {vs : List V} {env env' : Env} {sg : L2.St}, Bq is ds env = some env' → g.RepL rho H ds vs → g.Env rho H env sg → (∀ sg', g.Env rho H env' sg' → Q sg' H) → gs is vs sg H Q
 | [], [], vs, env, env', sg, e, r, n, h => by
  simp only [RepL] at r; subst r
  simp only [Bq] at e; cases e
  exact ⟨rfl, h sg n⟩
 | [], d :: t, vs, env, env', sg, e, r, n, h => by simp [Bq] at e
 | i :: t, [], vs, env, env', sg, e, r, n, h => by simp [Bq] at e
 | i :: t, d :: u, vs, env, env', sg, e, r, n, h => by
  simp only [RepL] at r
  obtain ⟨v, w, rfl, r1, r2⟩ := r
  simp only [Bq] at e
  split at e
  · exact ⟨v, w, rfl, Ow e r2 (n.set i r1) h⟩
  · cases e
theorem gx {rho : List Addr} {H : Hp} {Q : L2.St → Hp → Prop} {is : List Nat} {one : Bool} {d : D} {v : V} {env env' : Env} {sg : L2.St} (e : store is one d env = some env') (r : g.Rep rho H d v) (n : g.Env rho H env sg) (h : ∀ sg', g.Env rho H env' sg' → Q sg' H) : tg g.K is one v sg H Q := by
 unfold store at e
 unfold tg
 cases one with
 | true =>
  rw [if_pos rfl] at e ⊢
  match is, e with
  | [i], e =>
   simp only [Bq] at e
   split at e
   · cases e; exact h _ (n.set i r)
   · cases e
  | [], e => simp [Bq] at e
  | i :: j :: t, e => simp [Bq] at e
 | false =>
  rw [if_neg Bool.false_ne_true] at e ⊢
  cases d with
  | tup ds =>
   obtain ⟨p, vs, rfl, q, rl⟩ := br.mp r
   refine ⟨p, vs, rfl, q, ?_, Ow e rl n h⟩
   have : ∀ {is : List Nat} {ds : List D} {env env' : Env}, Bq is ds env = some env' → is.length = ds.length := by
    intro is
    induction is with
    | nil => intro ds env env' e; cases ds with
     | nil => rfl
     | cons _ _ => simp [Bq] at e
    | cons i t ih => intro ds env env' e; cases ds with
     | nil => simp [Bq] at e
     | cons _ _ =>
      simp only [Bq] at e
      split at e
      · simp [ih e]
      · cases e
   rw [← rl.length, this e]
  | _ => cases e
theorem Cb {i : Nat} {x : Str} (hN : X.N.Nodup) (hi : X.N[i]? = some x) (hx : Loc X.env.scope x) (hf : X.fn x = true ∨ X.env.scope.names.lookup x = some .local := by first | exact .inl rfl | exact .inr rfl | assumption) : PG X (.Name x pos) (tg g.K [i] true) := cp hN hi hx hf
theorem ox {is : List Nat} {tgt e : Expr} {e' : E} (he : Sd g X e e') (hg : PG X tgt (tg g.K is false)) (hs : swapsWithSole [tgt] e pos.line X.env = pure false := by rfl) (hw : swappedStores [tgt] e X.env = pure none := by rfl)
    (h1 : (assignEach [tgt] X.env).map (·.2) = [assign tgt X.env] := by rfl) : SdS g X F (.Assign [tgt] e pos) (.unp is e') := cy (ui he hg hs hw h1) fun D sg H q => by
  obtain ⟨rho, st, env, s, n, q⟩ := q
  simp only [Al] at q
  refine step s n q fun d st1 v H1 r1 k1 s1 n1 rp q1 => ?_
  split at q1
  · rename_i env' e1
    exact gx e1 rp n1 fun sg' n' => (show Az g rho H D (.next env') st1 from q1) sg' H1 r1 k1 s1 n'
  · exact q1.elim
theorem Ox {i j : Nat} {x y : Str} {px py pt : Pos} {kt k2 pt2} (hc : X.calm = true) (hN : X.N.Nodup) (hi : X.N[i]? = some x) (hj : X.N[j]? = some y) (hij : i ≠ j)
    (hx : X.env.scope.names.lookup x = some .local) (hy : X.env.scope.names.lookup y = some .local) (ha : Sd g X a a') (hb : Sd g X b b')
    (hw : swappedStores [.Tuple [.Name x px, .Name y py] kt pt] (.Tuple [a, b] k2 pt2) X.env = pure (some [x, y]))
    (hs : swapsWithSole [.Tuple [.Name x px, .Name y py] kt pt] (.Tuple [a, b] k2 pt2) pos.line X.env = pure false := by rfl) (h1 : starEach [a, b] X.env = (false, eval a X.env) :: starEach [b] X.env := by rfl) (h2 : starEach [b] X.env = (false, eval b X.env) :: starEach [] X.env := by rfl) :
    SdS g X F (.Assign [.Tuple [.Name x px, .Name y py] kt pt] (.Tuple [a, b] k2 pt2) pos) (.par i j a' b') := cy (Uj hc hN hi hj hij hx hy (Hm ha (Hm hb km h2) h1) hw hs) fun D sg H q => by
  obtain ⟨rho, st, env, s, n, q⟩ := q
  simp only [Al] at q
  refine step s n q fun d st1 v H1 r1 k1 s1 n1 rp q1 => ?_
  refine step s1 n1 q1 fun e st2 w H2 r2 k2 s2 n2 rp2 q2 => ?_
  split at q2
  · exact ⟨v, w, rfl, (show Az g rho H D (.next _) st2 from q2) _ H2 r2 (k1.trans k2) s2 ((n2.set i (rp.mono k2)).set j rp2)⟩
  · exact q2.elim
theorem Lc {J : It} {xs : List D} {p : Option Nat} {is : List Nat} {one : Bool} {x' : Ss} {r1 : List Addr} {H1 : Hp} {D : Ends} {sg : L2.St} {st1 : Sto} {env : Env}
    (hJ : ∀ rho st H, g.Keep r1 H1 rho H → g.Sto rho st H → stays st p xs = true → J.stop xs.length H ∧ ∀ (i : Nat) (d : DD.D), xs[i]? = some d → J.go i H ∧ ∀ x H', J.yld i H x H' → H' = H ∧ g.Rep rho H d x)
    (s1 : g.Sto r1 st1 H1) (n1 : g.Env r1 H1 env sg) (q1 : RQ g (forLoop xs p (fun d env st => match store is one d env with | some env' => An g.tab g.call F x' env' st | none => .bad) xs env st1) (Az g r1 H1 D) r1 H1) :
    ∃ W : Nat → Nat → L2.St → Hp → Prop, (∃ m, W 0 m sg H1) ∧ ∀ i m sg H, W i m sg H →
      (J.stop i H ∧ D.nx sg H) ∨ (J.go i H ∧ ∃ N : L2.St → Hp → Prop, (∀ sg' H', N sg' H' → ∃ m', m' < m ∧ W (i + 1) m' sg' H') ∧ ∀ x H', J.yld i H x H' → tg g.K is one x sg H' fun sg2 H2 => tSs g F x' { D with nx := N, ct := N, bk := D.nx } sg2 H2) := by
  refine ⟨fun i m sg H => m = xs.length - i ∧ i ≤ xs.length ∧ ∃ rho st env, g.Keep r1 H1 rho H ∧ g.Sto rho st H ∧ g.Env rho H env sg ∧ RQ g (forLoop xs p (fun d env st => match store is one d env with | some env' => An g.tab g.call F x' env' st | none => .bad) (xs.drop i) env st) (Az g rho H D) rho H, ⟨xs.length, by simp, Nat.zero_le _, r1, st1, env, .refl _ _, s1, n1, q1⟩, ?_⟩
  rintro i m sg H ⟨rfl, hi, rho, st, env, kk, s, n, q⟩
  have hst : stays st p xs = true := by
    cases z : stays st p xs with
    | true => rfl
    | false =>
      exfalso
      cases e : xs.drop i with
      | nil => rw [e] at q; simp only [forLoop, z] at q; exact q
      | cons d t => rw [e] at q; simp only [forLoop, z] at q; exact q
  obtain ⟨h1, h2⟩ := hJ rho st H kk s hst
  by_cases hlt : i < xs.length
  · obtain ⟨hgo, hy⟩ := h2 i xs[i] (List.getElem?_eq_getElem hlt)
    refine .inr ⟨hgo, fun sg H => i + 1 ≤ xs.length ∧ ∃ rho st env, g.Keep r1 H1 rho H ∧ g.Sto rho st H ∧ g.Env rho H env sg ∧ RQ g (forLoop xs p (fun d env st => match store is one d env with | some env' => An g.tab g.call F x' env' st | none => .bad) (xs.drop (i + 1)) env st) (Az g rho H D) rho H, fun sg' H' h => ⟨xs.length - (i + 1), by omega, rfl, h.1, h.2⟩, fun x H' y => ?_⟩
    obtain ⟨e2, rx⟩ := hy x H' y
    subst e2
    rw [List.drop_eq_getElem_cons hlt] at q
    simp only [forLoop, hst, if_true] at q
    cases es : store is one xs[i] env with
    | none => rw [es] at q; exact q.elim
    | some env1 =>
      rw [es] at q
      refine gx es rx n fun sg1 n1 => ?_
      refine ⟨rho, st, env1, s, n1, ?_⟩
      revert q
      simp only
      cases An g.tab g.call F x' env1 st with
      | bad => exact fun q => q
      | exc c st2 => exact fun q => q
      | ok f st2 =>
        simp only [bc]
        cases f with
        | next env2 => exact fun q sg2 H2 r2 k2 s2 n2 => ⟨hlt, r2, st2, env2, kk.trans k2, s2, n2, RQ.mono k2 q fun f st p => Az.mono k2 p⟩
        | cont env2 => exact fun q sg2 H2 r2 k2 s2 n2 => ⟨hlt, r2, st2, env2, kk.trans k2, s2, n2, RQ.mono k2 q fun f st p => Az.mono k2 p⟩
        | brk env2 => exact fun q => q
        | ret d => exact fun q => q
  · have e : i = xs.length := by omega
    subst e
    refine .inl ⟨h1, ?_⟩
    rw [List.drop_eq_nil_of_le (Nat.le_refl _)] at q
    simp only [forLoop, hst, if_true] at q
    exact (show Az g rho H D (.next env) st from q) sg H rho (.refl _ _) s n
def Es.len : Es → Nat
 | .nil => 0
 | .cons _ r => r.len + 1
theorem oy {tab : Nat → Ty → Option Bool} {call : Or} : ∀ {es : Es} {env : Env} {st st' : Sto} {ds : List DD.D}, As tab call es env st = .ok ds st' → ds.length = es.len
 | .nil, env, st, st', ds, h => by simp only [As] at h; cases h; rfl
 | .cons e r, env, st, st', ds, h => by
  simp only [As] at h
  cases e1 : aa tab call e env st with
  | bad => rw [e1] at h; cases h
  | exc c st1 => rw [e1] at h; cases h
  | ok d st1 =>
   rw [e1] at h
   simp only [bc] at h
   cases e2 : As tab call r env st1 with
   | bad => rw [e2] at h; cases h
   | exc c st2 => rw [e2] at h; cases h
   | ok t st2 =>
    rw [e2] at h
    simp only [bc] at h
    cases h
    simp only [List.length_cons, oy e2, Es.len]
theorem Oy {β : Type} {e : Es} {env : Env} {sg : L2.St} {st : Sto} {rho : List Addr} {H : Hp} {k : List DD.D → Sto → Res β} {ok : β → Sto → Prop} {Q : List V → Hp → Prop} (s : g.Sto rho st H) (n : g.Env rho H env sg)
    (h : RQ g ((As g.tab g.call e env st).bind k) ok rho H)
    (hk : ∀ d st1 v H1 rho1, d.length = e.len → g.Keep rho H rho1 H1 → g.Sto rho1 st1 H1 → g.Env rho1 H1 env sg → g.RepL rho1 H1 d v → RQ g (k d st1) ok rho1 H1 → Q v H1) : tEs g e sg H Q := by
  refine ⟨rho, st, env, s, n, ?_⟩
  revert h
  cases ee : As g.tab g.call e env st with
  | ok d st1 => exact fun h v H1 r1 k1 s1 rp => hk d st1 v H1 r1 (oy ee) k1 s1 (n.mono k1) rp (RQ.mono k1 h fun _ _ x => x)
  | exc c st1 => exact fun h => h
  | bad => exact fun h => h
theorem xy {ds xs : List DD.D} {e : Expr} (h : fb ds = some xs) (hl : ds.length = 1) : ∃ j : Int, ds = [.int j] ∧ -(2 ^ 62) ≤ j ∧ j < 2 ^ 62 ∧ xs = Gv 0 j.toNat := by
 match ds, hl with
 | [d], _ =>
  cases d with
  | int j =>
   simp only [fb] at h
   split at h
   · rename_i z; cases h; exact ⟨j, rfl, z.1, z.2, rfl⟩
   · cases h
  | _ => simp [fb] at h
theorem Ld {pos2 : Pos} {is : List Nat} {tgt e : Expr} {body : List Stmt} {x' : Ss} {e' : E} {p : Pos} (hp : PassesOwn (model X.prog X.w) X.A X.env X.xe) (hc : X.calm = true) (hg : Gl X "range") (hm : X.mg "range" = none) (ha : Sd g X e e') (ht : PG X tgt (tg g.K is true)) (hx : Dc g X F body x')
    (he : starEach [e] X.env = [(false, eval e X.env)] := by rfl) (hs : ∀ x, foldedSetIterable (.Call (.Name "range" p) [e] [] pos) X.env x = pure x   := by intro _; rfl) : SdS g X F (.For tgt (.Call (.Name "range" p) [e] [] pos) body [] pos2) (.forR is (.cons e' .nil) x') := cy (Ip hp hc (ur hg hm (Aa ha Ad he) he) ht hx hs) fun D sg H q => by
  obtain ⟨rho, st, env, s, n, q⟩ := q
  simp only [Al] at q
  refine Oy s n q fun ds st1 vs H1 r1 hl k1 s1 n1 rps q1 => ?_
  split at q1
  · rename_i xs e1
    obtain ⟨j, rfl, j1, j2, rfl⟩ := xy (e := e) e1 hl
    obtain ⟨v, rfl, rv⟩ := Fu rps
    refine ⟨j, by rw [Aq.mp rv], j1, j2, ?_⟩
    refine Lc (J := Itr 0 j.toNat) (p := none) (fun rho st H _ _ _ => ⟨?_, fun i d hd => ?_⟩) s1 n1 (RQ.mono (.refl _ _) q1 fun f st p => Az.mono k1 p)
    · show j.toNat ≤ _
      simp [Gv]
    · have hi : i < j.toNat := by
        have := (List.getElem?_eq_some_iff.mp hd).1
        simpa [Gv] using this
      refine ⟨hi, fun x H' y => ⟨y.1, ?_⟩⟩
      have hd' : d = .int (0 + (i : Nat)) := by
        have := (List.getElem?_eq_some_iff.mp hd).2
        simp [Gv] at this
        simp [← this]
      rw [hd', Aq]
      exact y.2
  · exact q1.elim
theorem Le {is : List Nat} {one : Bool} {tgt e : Expr} {body : List Stmt} {x' : Ss} {e' : E} (hK : X.K = g.K) (hp : PassesOwn (model X.prog X.w) X.A X.env X.xe) (hc : X.calm = true) (ha : Sd g X e e') (ht : PG X tgt (tg g.K is one)) (hx : Dc g X F body x')
    (hs : ∀ x, foldedSetIterable e X.env x = pure x := by intro _; rfl) : SdS g X F (.For tgt e body [] pos) (.forS is one false e' x') := cy (Ip hp hc (Mw ha) ht hx hs) fun D sg H q => by
  obtain ⟨rho, st, env, s, n, q⟩ := q
  simp only [Al] at q
  refine step s n q fun d st1 v H1 r1 k1 s1 n1 rp q1 => ?_
  cases d with
  | loc m =>
    simp only [Dn, Bool.false_eq_true, if_false] at q1
    cases el : Am st1 m with
    | none => rw [el] at q1; exact q1.elim
    | some ds =>
      rw [el] at q1
      simp only [Option.map_some] at q1
      obtain ⟨p, vs, hr, sq, rl⟩ := Dg s1 el
      obtain ⟨p2, hr2, rfl⟩ := bb.mp rp
      rw [hr] at hr2; cases hr2
      refine ⟨p, rfl, ⟨vs, by rw [hK]; exact sq⟩, ?_⟩
      rw [hK]
      refine Lc (J := Itl g.K p) (p := some m) (fun rho st H kk s hst => ?_) s1 n1 (RQ.mono (.refl _ _) q1 fun f st p => Az.mono k1 p)
      have hst : Am st m = some ds := of_decide_eq_true hst
      obtain ⟨p3, ws, hr3, sq3, rl3⟩ := Dg s hst
      rw [kk.at hr] at hr3; cases hr3
      refine ⟨⟨ws, sq3, by rw [← rl3.length]; exact Nat.le_refl _⟩, fun i d hd => ?_⟩
      obtain ⟨v, hv, rv⟩ := rl3.get hd
      refine ⟨⟨ws, v, sq3, hv⟩, fun x H' y => ⟨y.1, ?_⟩⟩
      have := y.2 ws sq3
      rw [hv] at this; cases this
      exact rv
  | _ => exact q1.elim
theorem Xy {is : List Nat} {one : Bool} {tgt e : Expr} {body : List Stmt} {x' : Ss} {e' : E} (hK : X.K = g.K) (hp : PassesOwn (model X.prog X.w) X.A X.env X.xe) (hc : X.calm = true) (ha : Sd g X e e') (ht : PG X tgt (tg g.K is one)) (hx : Dc g X F body x')
    (hs : ∀ x, foldedSetIterable e X.env x = pure x := by intro _; rfl) : SdS g X F (.For tgt e body [] pos) (.forS is one true e' x') := cy (Ip hp hc (mx ha) ht hx hs) fun D sg H q => by
  obtain ⟨rho, st, env, s, n, q⟩ := q
  simp only [Al] at q
  refine step s n q fun d st1 v H1 r1 k1 s1 n1 rp q1 => ?_
  cases d with
  | tup ds =>
    simp only [Dn, if_true] at q1
    obtain ⟨p, vs, rfl, sq, rl⟩ := br.mp rp
    refine ⟨p, rfl, ⟨vs, by rw [hK]; exact sq⟩, ?_⟩
    rw [hK]
    refine Lc (J := Itt g.K p) (p := none) (fun rho st H kk s hst => ?_) s1 n1 (RQ.mono (.refl _ _) q1 fun f st p => Az.mono k1 p)
    have sq3 := kk.tup p vs sq
    have rl3 := rl.mono kk
    refine ⟨⟨vs, sq3, by rw [← rl3.length]; exact Nat.le_refl _⟩, fun i d hd => ?_⟩
    obtain ⟨v, hv, rv⟩ := rl3.get hd
    refine ⟨⟨vs, v, sq3, hv⟩, fun x H' y => ⟨y.1, ?_⟩⟩
    have := y.2 vs sq3
    rw [hv] at this; cases this
    exact rv
  | _ => simp [Dn] at q1; exact q1.elim
theorem oz {o v : Expr} {o' v' : E} {apos cpos : Pos} (hK : X.K = g.K) (ho : Sd g X o o') (hv : Sd g X v v') (hbase : attributeBase o "append" X.env (eval o X.env) = eval o X.env := by rfl)
    (hfew : ((backTo cpos (starEach [v] X.env)).all (fun x => !x.1) && (backToKw cpos (keywordEach [] X.env)).all (fun x => x.1.isSome) && decide ([v].length + ([] : List Keyword).length + (if ([] : List Keyword).isEmpty then 0 else 1) < 30)) = true := by rfl)
    (hline : (apos.endLine == cpos.line) = true := by rfl) (hs : starEach [v] X.env = (false, eval v X.env) :: starEach [] X.env := by rfl) : Sd g X (.Call (.Attribute o "append" apos) [v] [] cpos) (.mt .append o' (.cons v' .nil)) :=
  Ay (nr PySem.F.plainAttrs_list PySem.F.slot_list_append PySem.F.type_list_append Nr ho (Aa hv Ad hs) hbase hfew hline hs rfl) fun sg H Q q => by
    obtain ⟨rho, st, env, s, n, q⟩ := q
    simp only [aa] at q
    refine step s n q fun d st1 x H1 r1 k1 s1 n1 rp q1 => ?_
    split at q1
    · rename_i hl
      have hl : Ew st1 d = true := hl
      cases d with
      | loc m =>
        have hl : ∃ xs, st1[m]? = some (.lst xs) := by
          simp only [Ew] at hl
          split at hl
          · rename_i xs e; exact ⟨xs, e⟩
          · cases hl
        obtain ⟨xs, el⟩ := hl
        obtain ⟨p, vs, hr, hH, rl⟩ := fc s1 el
        obtain ⟨p2, hr2, rfl⟩ := bb.mp rp
        rw [hr] at hr2; cases hr2
        refine ⟨.inl ⟨rfl, vs, SqL.of hH⟩, ?_⟩
        refine dq s1 n1 q1 fun ds st2 ws H2 r2 k2 s2 n2 rps q2 => ?_
        match ds, q2 with
        | [y], q2 =>
          obtain ⟨w, rfl, rw1⟩ := Fu rps
          simp only [mtD] at q2
          split at q2
          · rename_i zs ez
            split at q2
            · rename_i hz
              obtain ⟨p3, us, hr3, hH3, rl3⟩ := fc s2 ez
              rw [k2.at hr] at hr3; cases hr3
              have hrep : g.RepL r2 H2 (zs ++ [y]) (us ++ [w]) := rl3.append (by simp only [RepL]; exact ⟨w, [], rfl, rw1, rfl⟩)
              obtain ⟨k3, s3⟩ := s2.wrote (k2.at hr) ez hH3 hrep
              refine ⟨p, us, w, rfl, rfl, hH3, by rw [← rl3.length]; exact hz, ?_⟩
              exact (show Ak g rho H Q .non _ from q2) _ _ r2 ((k1.trans k2).trans k3) s3 (Cr.mpr rfl)
            · exact q2.elim
          · exact q2.elim
        | [], q2 => exact q2.elim
        | _ :: _ :: _, q2 => exact q2.elim
      | _ => cases hl
    · exact q1.elim
end DD
namespace DD
open PySem PySem.Spec L2
open PyProof.Rows hiding St
variable {g : G} {X : Cx} {a b c : Expr} {a' b' c' : E} {pos : Pos} {rest es : List Expr} {es' : Es} {F : Nat}
abbrev G.with (g : G) (E : XK) : G := { g with xk := E }
end DD
namespace DD
open PySem PySem.Spec L2
open PyProof.Rows hiding St
structure FunD (K : PySem.W.Frag) (x qual : Str) (st : Stmt) (f : Addr) (fd : FuncData) : Prop where
 ex : ∃ (oc : Value) (od : Option Addr) (dV kV doc pm : Value) (an : Option Addr) (cdv ct : Value) (osl : Array (Option Value)),
  fd = PySem.W.fnOf x qual (gu st) (er st) (Ao st) dV kV doc pm an cdv ct ∧ K.lookup f = some ⟨oc, od, .func fd, osl⟩ ∧ PySem.W.codeIn K cdv qual = true
 kp : PySem.W.keepIn K (.ref f) = true
theorem Av {K : PySem.W.Frag} {x qual : Str} {st : Stmt} {f : Addr} {oc : Value} {od an : Option Addr} {osl : Array (Option Value)} {dV kV doc pm cdv ct : Value} (l : K.lookup f = some ⟨oc, od, .func (PySem.W.fnOf x qual (gu st) (er st) (Ao st) dV kV doc pm an cdv ct), osl⟩)
    (c : PySem.W.codeIn K cdv qual = true) (k : PySem.W.keepIn K (.ref f) = true) : FunD K x qual st f (PySem.W.fnOf x qual (gu st) (er st) (Ao st) dV kV doc pm an cdv ct) := ⟨⟨oc, od, dV, kV, doc, pm, an, cdv, ct, osl, rfl, l, c⟩, k⟩
section
variable {P : Program} {w : World} {K : PySem.W.Frag} {mg : Str → Option Value} {base : Heap} {cls : CW} {tab : Nat → Ty → Option Bool} {fns : List Fn} {FF : Nat}
abbrev cxD (P : Program) (w : World) (K : PySem.W.Frag) (mg : Str → Option Value) (base : Heap) (N : List Str) (qual : Str) (st : Stmt) (f : Addr) (cdv : Value) (A : Around) (outer : List PySem.Env) (s : Shared) (H : Hp) (E : XK) : Cx := dw (CXd P w) P w K mg base N qual (Ao st) f cdv A outer s H E
theorem Xz {rho : List Addr} {H : Hp} : ∀ {ds : List D} {vs : List V}, RepL K rho H ds vs → ∀ (i : Nat) (d : D), (ds.map some)[i]? = some (some d) → ∃ v, (vs.map some)[i]? = some (some v) ∧ Rep K rho H d v := fun {ds vs} r i d e => by
 rw [List.getElem?_map] at e
 cases z : ds[i]? with
 | none => rw [z] at e; cases e
 | some y =>
  rw [z] at e; cases e
  obtain ⟨v, h1, h2⟩ := r.get z
  exact ⟨v, by rw [List.getElem?_map, h1]; rfl, h2⟩
theorem aw {x qual : Str} {st : Stmt} {f : Addr} {fd : FuncData} {N ps : List Str} {m n fi : Nat} {body' : Ss} (F : FunD K x qual st f fd) (S : FnScope N ps (Ao st)) (hf : fns[fi]? = some ⟨ps.length, N.length, body'⟩)
    (hb : ∀ (cdv : Value) (A : Around) (outer : List PySem.Env) (s : Shared) (H : Hp) (E : XK), Room m (A.deeper (envOfC qual (Ao st) s.heap.objs.size f cdv)) → Dc ⟨K, cls, tab, Bw tab fns FF n, E⟩ (cxD P w K mg base N qual st f cdv A outer s H E) FF (er st) body') :
    FnOk P w K mg base (CXd P w) (m + 1) f fd ps (spD K cls ps.length (Bw tab fns FF (n + 1) fi)) := by
  obtain ⟨oc, od, dV, kV, doc, pm, an, cdv, ct, osl, rfl, lk, hcd⟩ := F.ex
  refine ni lk hcd S (fun vs H Q E h => h.1) fun A outer s H vs Q E hr hsp => ?_
  obtain ⟨hl, rho, st1, ds, s1, rl, q⟩ := hsp
  refine ⟨_, hb cdv A outer s H E hr, ?_⟩
  have hdl := rl.length
  have hpn : ps.length ≤ N.length := by have := congrArg List.length S.pre; rw [List.length_take] at this; omega
  have e0 : Bw tab fns FF (n + 1) fi ds st1 = fin (An tab (Bw tab fns FF n) FF body' (ds.map some ++ List.replicate (N.length - ps.length) none) st1) := by
    show (match fns[fi]? with
      | some fn => if ds.length = fn.np ∧ fn.np ≤ fn.nl then fin (An tab (Bw tab fns FF n) FF fn.body (ds.map some ++ List.replicate (fn.nl - fn.np) none) st1) else .bad
      | none => .bad) = _
    rw [hf]
    simp only
    rw [if_pos ⟨by omega, hpn⟩]
  rw [e0] at q
  refine ⟨rho, st1, ds.map some ++ List.replicate (N.length - ps.length) none, s1, ⟨?_, fun i d e => ?_⟩, ?_⟩
  · unfold L2.start
    simp [hdl, hl]
  · unfold L2.start
    by_cases hi : i < ds.length
    · rw [List.getElem?_append_left (by simpa using hi)] at e
      obtain ⟨v, h1, h2⟩ := Xz rl i d e
      exact ⟨v, by rw [List.getElem?_append_left (by simp; omega)]; exact h1, h2⟩
    · rw [List.getElem?_append_right (by simpa using hi), List.getElem?_replicate] at e
      split at e <;> cases e
  · revert q
    unfold fin
    cases An tab (Bw tab fns FF n) FF body' (ds.map some ++ List.replicate (N.length - ps.length) none) st1 with
    | bad => exact fun q => q
    | exc c st2 => exact fun q => q
    | ok f st2 =>
      simp only [bc]
      cases f with
      | next env2 => exact fun q sg H' rho' k s' n' => q _ H' rho' k s' (by simp [Rep])
      | ret d => exact fun q => q
      | brk env2 => exact fun q => q.elim
      | cont env2 => exact fun q => q.elim
theorem Aw {f : Addr} {fd : FuncData} {ps : List Str} {fi : Nat} : FnOk P w K mg base (CXd P w) 0 f fd ps (spD K cls ps.length (Bw tab fns FF 0 fi)) := by
 refine ⟨fun vs H Q E h => h.1, fun A outer s H args us vs Q E _ _ _ _ h => ?_⟩
 obtain ⟨_, rho, st1, ds, s1, rl, q⟩ := h
 exact q.elim
theorem Ag {n fi np nl : Nat} {body' : Ss} (hf : fns[fi]? = some ⟨np, nl, body'⟩) : ∀ ds st, ds.length ≠ np → Bw tab fns FF n fi ds st = .bad := fun ds st h => by
 cases n with
 | zero => rfl
 | succ n =>
  show (match fns[fi]? with
   | some fn => if ds.length = fn.np ∧ fn.np ≤ fn.nl then fin (An tab (Bw tab fns FF n) FF fn.body (ds.map some ++ List.replicate (fn.nl - fn.np) none) st) else .bad
   | none => .bad) = _
  rw [hf]
  simp only
  rw [if_neg (fun z => h z.1)]
end
end DD
namespace DD
open PySem PySem.Spec L2
variable {g : G} {X : Cx} {a b c : Expr} {a' b' c' : E} {pos : Pos} {rest es : List Expr} {es' : Es} {F : Nat}
def Ea : Cm → CmpOp
 | .eq => .Eq | .ne => .NotEq | .lt => .Lt | .le => .LtE | .gt => .Gt | .ge => .GtE | .isN => .Is | .notN => .IsNot | .inL => .In | .notIn => .NotIn
def rCm (g : G) (c : Cm) : R2 := fun x y H Q => ∃ rho st a b, g.Sto rho st H ∧ g.Rep rho H a x ∧ g.Rep rho H b y ∧ RQ g (cmD c a b st) (Ak g rho H Q) rho H
theorem ya {rho : List Addr} {H : Hp} {d : D} {x : V} {v : Value} {c : Bool} {A : Around} {E : Value → Shared → Prop} {s : Shared} {M : Model} {Q : Value → Shared → Prop} (r : g.Rep rho H d x) (rx : RelV x v) (h : Q (.bool (decide (d = D.bl c))) s) : wpAny M A (compareOp .Is v (.bool c)) Q E s := by
 cases d with
 | non => cases Cr.mp r; cases rx; exact wpAny_pure h
 | bl z => cases az.mp r; cases rx; cases z <;> cases c <;> exact wpAny_pure h
 | int i => cases Aq.mp r; obtain ⟨t, rfl⟩ := rx; exact wpAny_pure h
 | str z => cases Bk.mp r; obtain ⟨t, rfl⟩ := rx; exact wpAny_pure h
 | tup ds => obtain ⟨q, vs, rfl, _⟩ := br.mp r; cases rx; exact wpAny_pure h
 | loc n => obtain ⟨q, _, rfl⟩ := bb.mp r; cases rx; exact wpAny_pure h
theorem Ya {rho : List Addr} {H : Hp} {d : D} {x : V} {v : Value} {c : Bool} {A : Around} {E : Value → Shared → Prop} {s : Shared} {M : Model} {Q : Value → Shared → Prop} (r : g.Rep rho H d x) (rx : RelV x v) (h : Q (.bool (!decide (d = D.bl c))) s) : wpAny M A (compareOp .IsNot v (.bool c)) Q E s := by
 cases d with
 | non => cases Cr.mp r; cases rx; exact wpAny_pure h
 | bl z => cases az.mp r; cases rx; cases z <;> cases c <;> exact wpAny_pure h
 | int i => cases Aq.mp r; obtain ⟨t, rfl⟩ := rx; exact wpAny_pure h
 | str z => cases Bk.mp r; obtain ⟨t, rfl⟩ := rx; exact wpAny_pure h
 | tup ds => obtain ⟨q, vs, rfl, _⟩ := br.mp r; cases rx; exact wpAny_pure h
 | loc n => obtain ⟨q, _, rfl⟩ := bb.mp r; cases rx; exact wpAny_pure h
theorem Oz {rho : List Addr} {H : Hp} {d : D} {v : V} (r : g.Rep rho H d v) : decide (v = V.non) = decide (d = D.non) := by
 cases d with
 | non => cases Cr.mp r; rfl
 | bl b => cases az.mp r; simp
 | int b => cases Aq.mp r; simp
 | str b => cases Bk.mp r; simp
 | tup ds => obtain ⟨_, _, rfl, _⟩ := br.mp r; simp
 | loc n => obtain ⟨_, _, rfl⟩ := bb.mp r; simp
theorem Gx (hK : X.K = g.K) (hw : g.cls.w = X.w) (hu : X.A.units + 64 < cLine) (c : Cm) : OpR X (compareOp (Ea c)) (rCm g c) := by
 rintro pins s sg H x y v u Q I rx ry ⟨rho, st, a, b, S, r1, r2, q⟩
 have onInts : ∀ {op : CmpOp} {r : Int → Int → Bool} (ho : OpR X (compareOp op) (rI0 fun i j => .bl (r i j))), (∀ st, cmD c a b st = match a, b with | .int i, .int j => .ok (.bl (r i j)) st | _, _ => .bad) → wpAny (model X.prog X.w) X.A (compareOp op v u) (EP X pins sg Q) X.xe s := by
  intro op r ho hk
  refine ho pins s sg H x y v u Q I rx ry ?_
  rw [hk] at q
  cases a with
  | int i =>
   cases b with
   | int j => exact ⟨i, j, Aq.mp r1, Aq.mp r2, q _ H rho (.refl _ _) S (az.mpr rfl)⟩
   | _ => exact q.elim
  | _ => exact q.elim
 cases c with
 | eq =>
  refine Kx hK hu pins s sg H x y v u Q I rx ry ?_
  simp only [cmD] at q
  cases e : eqV st a b with
  | none => rw [e] at q; exact q.elim
  | some z =>
   rw [e] at q
   obtain ⟨p1, p2, h1, h2, rfl⟩ := Ja e
   exact ⟨rho, st, a, b, p1, p2, S, r1, r2, h1, h2, (show Ak g rho H Q (.bl _) st from q) _ H rho (.refl _ _) S (az.mpr rfl)⟩
 | ne =>
  refine Og hK hu pins s sg H x y v u Q I rx ry ?_
  simp only [cmD] at q
  cases e : eqV st a b with
  | none => rw [e] at q; exact q.elim
  | some z =>
   rw [e] at q
   obtain ⟨p1, p2, h1, h2, rfl⟩ := Ja e
   exact ⟨rho, st, a, b, p1, p2, S, r1, r2, h1, h2, (show Ak g rho H Q (.bl _) st from q) _ H rho (.refl _ _) S (az.mpr rfl)⟩
 | lt => exact onInts mz (fun st => by cases a <;> cases b <;> rfl)
 | le => exact onInts uy (fun st => by cases a <;> cases b <;> rfl)
 | gt => exact onInts Mz (fun st => by cases a <;> cases b <;> rfl)
 | ge => exact onInts Na (fun st => by cases a <;> cases b <;> rfl)
 | isN =>
  simp only [cmD] at q
  cases b with
  | non => exact uz pins s sg H x y v u Q I rx ry ⟨Cr.mp r2, by rw [Oz r1]; exact (show Ak g rho H Q (.bl _) st from q) _ H rho (.refl _ _) S (az.mpr rfl)⟩
  | bl c =>
   cases az.mp r2
   cases ry
   exact ya r1 rx ⟨.bl _, H, I, rfl, (show Ak g rho H Q (.bl _) st from q) _ H rho (.refl _ _) S (az.mpr rfl)⟩
  | _ => exact q.elim
 | notN =>
  simp only [cmD] at q
  cases b with
  | non => exact Uz pins s sg H x y v u Q I rx ry ⟨Cr.mp r2, by rw [Oz r1]; exact (show Ak g rho H Q (.bl _) st from q) _ H rho (.refl _ _) S (az.mpr rfl)⟩
  | bl c =>
   cases az.mp r2
   cases ry
   exact Ya r1 rx ⟨.bl _, H, I, rfl, (show Ak g rho H Q (.bl _) st from q) _ H rho (.refl _ _) S (az.mpr rfl)⟩
  | _ => exact q.elim
 | inL =>
  simp only [cmD] at q
  cases e : inD st a b with
  | none => rw [e] at q; exact q.elim
  | some z => rw [e] at q; exact (Kz hK hw hu I S r1 r2 rx ry e).1 ((show Ak g rho H Q (.bl _) st from q) _ H rho (.refl _ _) S (az.mpr rfl))
 | notIn =>
  simp only [cmD] at q
  cases e : inD st a b with
  | none => rw [e] at q; exact q.elim
  | some z => rw [e] at q; exact (Kz hK hw hu I S r1 r2 rx ry e).2 ((show Ak g rho H Q (.bl _) st from q) _ H rho (.refl _ _) S (az.mpr rfl))
theorem Pa {k : Cm} {sg : L2.St} {H : Hp} {Q : VK} (q : tE g (.cm k a' b') sg H Q) : tOp (rCm g k) (tE g a') (tE g b') sg H Q := by
 obtain ⟨rho, st, env, s, n, q⟩ := q
 simp only [aa] at q
 refine two (k := cmD k) ?_ s n q
 intro x y u v st rho H Q s rx ry q
 exact ⟨rho, st, x, y, s, rx, ry, q⟩
theorem pb (hK : X.K = g.K) (hw : g.cls.w = X.w) (hu : X.A.units + 64 < cLine) (ha : Sd g X a a') (hb : Sd g X b b') : SdT g X (.Compare a [.Is] [b] pos) (.cm .isN a' b') := dg (Ep (Gx hK hw hu .isN) ha hb (Eo _)) fun sg H Q q => Pa (cmT q)
theorem Lf (hK : X.K = g.K) (hw : g.cls.w = X.w) (hu : X.A.units + 64 < cLine) (ha : Sd g X a a') (hb : Sd g X b b') : SdT g X (.Compare a [.IsNot] [b] pos) (.cm .notN a' b') := dg (Ep (Gx hK hw hu .notN) ha hb (Eo _)) fun sg H Q q => Pa (cmT q)
theorem Pb {c1 c2 : Cm} {sg : L2.St} {H : Hp} {Q : VK} (q : tE g (.chn c1 c2 a' b' c') sg H Q) : Ki (rCm g c1) (rCm g c2) (tE g a') (tE g b') (tE g c') sg H Q := by
 obtain ⟨rho, st, env, s, n, q⟩ := q
 simp only [aa] at q
 refine step s n q fun x st1 u H1 r1 k1 s1 n1 rx q1 => ?_
 refine step s1 n1 q1 fun y st2 v H2 r2 k2 s2 n2 ry q2 => ?_
 refine ⟨r2, st2, x, y, s2, rx.mono k2, ry, ?_⟩
 revert q2
 cases e : cmD c1 x y st2 with
 | bad => exact fun q => q
 | exc cc st3 => exact fun q => q
 | ok d st3 =>
  obtain ⟨z, rfl⟩ := jb e
  simp only [bc]
  intro q2 w H3 r3 k3 s3 rw3
  refine ⟨z, az.mp rw3, ?_⟩
  cases z with
  | false => exact fo ((show Ak g rho H Q (.bl false) st3 from q2) _ H3 r3 ((k1.trans k2).trans k3) s3 (az.mpr rfl))
  | true =>
   refine Fo (step s3 (n2.mono k3) (RQ.mono k3 q2 fun _ _ p => p) fun t st4 w4 H4 r4 k4 s4 n4 rt q4 => ?_)
   exact ⟨r4, st4, y, t, s4, (ry.mono k3).mono k4, rt, RQ.mono (.refl _ _) q4 fun _ _ p => p.mono (((k1.trans k2).trans k3).trans k4)⟩
theorem yb {c1 c2 : Cm} {sg : L2.St} {H : Hp} {Q : Bool → Hp → Prop} (q : tT g (.chn c1 c2 a' b' c') sg H Q) : tE g (.chn c1 c2 a' b' c') sg H (fun x H' => ∃ z, x = .bl z ∧ Q z H') := by
 obtain ⟨rho, st, env, s, n, q⟩ := q
 refine ⟨rho, st, env, s, n, ?_⟩
 simp only [Aj] at q
 simp only [aa]
 revert q
 cases aa g.tab g.call a' env st with
 | bad => exact fun q => q
 | exc c st1 => exact fun q => q
 | ok x st1 =>
  simp only [bc]
  cases aa g.tab g.call b' env st1 with
  | bad => exact fun q => q
  | exc c st2 => exact fun q => q
  | ok y st2 =>
   simp only [bc]
   cases e : cmD c1 x y st2 with
   | bad => exact fun q => q
   | exc c st3 => exact fun q => q
   | ok d st3 =>
    obtain ⟨z, rfl⟩ := jb e
    simp only [bc]
    cases z with
    | false =>
     intro q v H' rho' k1 s1 r1
     exact ⟨false, az.mp r1, (show Cq g rho H Q false st3 from q) H' rho' k1 s1⟩
    | true =>
     simp only
     cases aa g.tab g.call c' env st3 with
     | bad => exact fun q => q
     | exc c st4 => exact fun q => q
     | ok t st4 =>
      simp only [bc]
      cases e2 : cmD c2 y t st4 with
      | bad => exact fun q => q
      | exc c st5 => exact fun q => q
      | ok d st5 =>
       obtain ⟨z, rfl⟩ := jb e2
       simp only [bc]
       intro q v H' rho' k1 s1 r1
       exact ⟨z, az.mp r1, (show Cq g rho H Q z st5 from q) H' rho' k1 s1⟩
theorem Pc (c1 c2 : Cm) (hK : X.K = g.K) (hw : g.cls.w = X.w) (hu : X.A.units + 64 < cLine) (ha : Sd g X a a') (hb : Sd g X b b') (hc : Sd g X c c') (hm : lastMarks [Ea c1, Ea c2] [b, c] = false := by with_unfolding_all rfl) : Sd g X (.Compare a [Ea c1, Ea c2] [b, c] pos) (.chn c1 c2 a' b' c') :=
 Ay (Va (Gx hK hw hu c1) (Gx hK hw hu c2) ha hb hc hm) fun sg H Q q => Pb q
theorem Yb (c1 c2 : Cm) (hK : X.K = g.K) (hw : g.cls.w = X.w) (hu : X.A.units + 64 < cLine) (ha : Sd g X a a') (hb : Sd g X b b') (hc : Sd g X c c') (hm : lastMarks [Ea c1, Ea c2] [b, c] = false := by with_unfolding_all rfl) : SdT g X (.Compare a [Ea c1, Ea c2] [b, c] pos) (.chn c1 c2 a' b' c') :=
 dg (vb (Gx hK hw hu c1) (Gx hK hw hu c2) ha hb hc hm) fun sg H Q q => Pb (yb q)
end DD
namespace DD
open PySem PySem.Spec L2
variable {g : G} {X : Cx} {a b c : Expr} {a' b' c' : E} {pos : Pos} {rest es : List Expr} {es' : Es} {F : Nat}
theorem RepL.drop {rho : List Addr} {H : Hp} : ∀ {ds : List D} {vs : List V} (n : Nat), g.RepL rho H ds vs → g.RepL rho H (ds.drop n) (vs.drop n)
 | ds, vs, 0, r => by simpa using r
 | [], vs, n + 1, r => by simp only [DD.RepL] at r; subst r; simp [DD.RepL]
 | d :: t, vs, n + 1, r => by
  simp only [DD.RepL] at r
  obtain ⟨v, w, rfl, _, r2⟩ := r
  simpa using RepL.drop n r2
theorem RepL.take {rho : List Addr} {H : Hp} : ∀ {ds : List D} {vs : List V} (n : Nat), g.RepL rho H ds vs → g.RepL rho H (ds.take n) (vs.take n)
 | ds, vs, 0, r => by simp [DD.RepL]
 | [], vs, n + 1, r => by simp only [DD.RepL] at r; subst r; simp [DD.RepL]
 | d :: t, vs, n + 1, r => by
  simp only [DD.RepL] at r
  obtain ⟨v, w, rfl, r1, r2⟩ := r
  simp only [List.take_succ_cons, DD.RepL]
  exact ⟨v, _, rfl, r1, RepL.take n r2⟩
theorem RepL.cut {rho : List Addr} {H : Hp} {ds : List D} {vs : List V} (r : g.RepL rho H ds vs) (lo hi : Option Int) : g.RepL rho H (cutD ds lo hi) (da vs lo hi) := by
 unfold cutD da
 rw [r.length]
 exact RepL.take _ (RepL.drop _ r)
def pd (K : PySem.W.Frag) : V → Option Int → Option Int → Hp → VK → Prop := fun x lo hi H Q => ∃ a xs, x = .ref a ∧ SqT K H a xs ∧ HT.sIx xs.length 0 lo = 0 ∧ HT.sIx xs.length xs.length hi = xs.length ∧ Q x H
section
open PyProof.Rows hiding St RelV
open PySem.SeqAt
open PySem.MeetsSeq PySem.MeetsSeq2 PySem.MeetsSeq3
theorem yc {prog : Program} {w : World} {A : Around} {E : Value → Shared → Prop} {s : Shared} {t sl : Addr} {items : Array Value} {vl vu : Value} {lo hi : Option Int} {Q : Value → Shared → Prop} (ht : IsTup s.heap t items) (hs : s.heap.IsSliceOf sl vl vu .none) (pl : IsPart vl lo) (pu : IsPart vu hi)
    (h1 : HT.sIx items.size 0 lo = 0) (h2 : HT.sIx items.size items.size hi = items.size) (h : Q (.ref t) s) : wpAny (model prog w) A (getItem (.ref t) (.ref sl)) Q E s := by
  obtain ⟨os, hos, hcs, hds⟩ := id hs
  have hTs : s.TypeIs (.ref sl) "slice" := ⟨os, hos, hcs⟩
  unfold getItem
  try with_reducible refine wpAny_holding ?_
  first | refine wpAny_bind (wpAny_pure ?_) | skip
  refine wpAny_bind (wpAny_sequenceKey ht.typeIs (by decide) ?_)
  refine wpAny_bind (wpAny_callSpecial?_slot (name := Str.ofString "__getitem__") ht.typeIs PyProof.Rows.slot_tuple_getitem
    (wpAny_call_entry PyProof.Rows.slot_tuple_getitem ht.typeIs entry_tuple_getitem ?_ (args_tuple_getitem _ _)))
  show wpAny _ _ (Builtin.Tuple.tupleItemsOf (.ref t) >>= _) _ _ s
  refine wpAny_bind (tupleItemsOf_ ht ?_)
  refine wpAny_bind (wpAny_typeOf hTs ?_)
  rw [if_pos (by decide)]
  refine wpAny_bind (HT.Nj hs pl pu ?_)
  show wpAny _ _ (if (((HT.sIx items.size 0 lo : Nat) : Int) == 0 && (1 : Int) == 1 && (HT.sIx items.size items.size hi - HT.sIx items.size 0 lo) == items.size) = true then _ else _) _ _ s
  rw [if_pos (by rw [h1, h2]; simp)]
  refine wpAny_bind (m := Builtin.Tuple.tupleIsExact (.ref t)) ?_
  unfold Builtin.Tuple.tupleIsExact
  refine wpAny_bind (wpAny_typeOf ht.typeIs (wpAny_pure ?_))
  rw [if_pos (by decide)]
  exact wpAny_bind (wpAny_rule (wpAny_pure ⟨_, rfl, wpAny_pure h⟩))
end
theorem Yc : SlR X (pd X.K) := by
 intro pins s sg H x v vl vu lo hi sl Q I rx hs pl pu h
 obtain ⟨a, xs, rfl, hx, h1, h2, q⟩ := h
 cases rx
 obtain ⟨its, r, ht, hz⟩ := I.tuple hx
 have hlen : its.toArray.size = xs.length := by rw [List.size_toArray]; exact r.length.symm
 exact ⟨"tuple", _, PyProof.Rows.slot_tuple_getitem.lookup, ht.typeIs, yc ht hs pl pu (by rw [hlen]; exact h1) (by rw [hlen]; exact h2) ⟨.ref a, H, I, rfl, q⟩⟩
def iu (K : PySem.W.Frag) : V → Option Int → Option Int → Hp → VK → Prop := fun x lo hi H Q => ∃ a xs, x = .ref a ∧ SqL K H a xs ∧ ∀ p, H p = none → Q (.ref p) (upd H p (.lst (da xs lo hi)))
theorem yd (its : List Value) (lo hi : Option Int) : slicePick its.toArray lo hi none = ((its.drop (HT.sIx its.length 0 lo)).take (HT.sIx its.length its.length hi - HT.sIx its.length 0 lo)).toArray := by
 have c : ∀ (n d : Nat) (o : Option Int), o.elim d (clipAt n) = HT.sIx n d o := fun n d o => by
  cases o with
  | none => rfl
  | some v =>
   show clipAt n v = if v < 0 then (v + (n : Int)).toNat else min v.toNat n
   unfold clipAt
   split <;> omega
 rw [slicePick_plain, c, c]
 simp
theorem nq : SlR X (iu X.K) := by
 intro pins s sg H x v vl vu lo hi sl Q I rx hs pl pu h
 obtain ⟨a, xs, rfl, hx, q⟩ := h
 cases rx
 obtain ⟨its, r, hl, hz⟩ := I.list hx
 have hlen := r.length
 refine ⟨"list", _, slot_list_getitem.lookup, hl.isList.typeIs, ?_⟩
 refine wpAny_getItem_list_slice hl.isList hs pl pu .none (by simp) ?_ (by rw [List.size_toArray, ← hlen]; exact hz)
 rw [yd]
 refine ⟨.ref s.heap.objs.size, _, I.lnew (t' := s.toks) (ys := da xs lo hi) ?_ (Nat.le_trans (ko xs lo hi) hz), rfl, q _ (I.hok.fresh (Nat.le_refl _))⟩
 unfold da
 rw [hlen]
 exact (r.drop _).take _
end DD
namespace DD
open PySem PySem.Spec L2
variable {g : G} {X : Cx} {a b c : Expr} {a' b' c' : E} {pos p2 : Pos} {rest es : List Expr} {es' : Es} {F : Nat}
theorem bind_assoc {α β γ : Type} (r : Res α) (f : α → Sto → Res β) (k : β → Sto → Res γ) : (r.bind f).bind k = r.bind fun a st => (f a st).bind k := by cases r <;> rfl
def rSl (K : PySem.W.Frag) : V → Option Int → Option Int → Hp → VK → Prop := fun x lo hi H Q => iu K x lo hi H Q ∨ Nl K x lo hi H Q ∨ pd K x lo hi H Q
theorem Pd : SlR X (rSl X.K) := nq.or (Vy.or Yc)
theorem pe (hK : X.K = g.K) {k : Nat} {x : D} {v : V} {ds : List D} {lo hi : Option Int} {st : Sto} {rho : List Addr} {H : Hp} {Q : VK} (hp : iw k ds = some (lo, hi)) (s : g.Sto rho st H) (rx : g.Rep rho H x v)
    (q : RQ g (slD k x ds st) (Ak g rho H Q) rho H) : rSl X.K v lo hi H Q := by
  unfold slD at q
  rw [hp] at q
  simp only at q
  cases x with
  | tup xs =>
    have q : Ak g rho H Q (.tup (cutD xs lo hi)) st := q
    obtain ⟨p, vs, rfl, sq, rl⟩ := br.mp rx
    have sq' : SqT X.K H p vs := by rw [hK]; exact sq
    by_cases w : HT.sIx vs.length 0 lo = 0 ∧ HT.sIx vs.length vs.length hi = vs.length
    · refine .inr (.inr ⟨p, vs, rfl, sq', w.1, w.2, q _ H rho (.refl _ _) s (br.mpr ⟨p, vs, rfl, sq, ?_⟩)⟩)
      have e : cutD xs lo hi = xs := by
        unfold cutD
        rw [rl.length, w.1, w.2, List.drop_zero, Nat.sub_zero, ← rl.length, List.take_length]
      rw [e]; exact rl
    · refine .inr (.inl ⟨p, vs, rfl, sq', w, fun l hl => ?_⟩)
      have e := Fb hl (.tup (da vs lo hi))
      exact q (.ref l) _ rho (Bd.keep e rho) (s.same e) (br.mpr ⟨l, _, rfl, SqT.of cj, (RepL.cut rl lo hi).mono (Bd.keep e rho)⟩)
  | loc n =>
    simp only at q
    split at q
    · rename_i xs e
      obtain ⟨p, vs, h1, sq, rl⟩ := Dg s e
      obtain ⟨p2, h2, rfl⟩ := bb.mp rx
      rw [h1] at h2; cases h2
      exact .inl ⟨p, vs, rfl, by rw [hK]; exact sq, fun l hl => Hq s (RepL.cut rl lo hi) hl q⟩
    · exact q.elim
  | _ => exact q.elim
theorem lg (hK : X.K = g.K) (ha : Sd g X a a') (hb : Sd g X b b') : Sd g X (.Subscript a (.Slice (some b) none none p2) pos) (.sl 1 a' (.cons b' .nil)) := Ay (Nk Pd ha (Kn hb) nk) fun sg H Q q => by
 obtain ⟨rho, st, env, s, n, q⟩ := q
 simp only [aa, Dp, bc, bind_assoc] at q
 refine step s n q fun x st1 v H1 r1 k1 s1 n1 rx q1 => ?_
 refine step s1 n1 q1 fun y st2 u H2 r2 k2 s2 n2 ry q2 => ?_
 cases y with
 | int i => exact ⟨i, Aq.mp ry, pe hK (k := 1) (ds := [.int i]) rfl s2 (rx.mono k2) (RQ.mono (.refl _ _) q2 fun _ _ p => p.mono (k1.trans k2))⟩
 | _ => exact q2.elim
theorem Yd (hK : X.K = g.K) (ha : Sd g X a a') (hb : Sd g X b b') : Sd g X (.Subscript a (.Slice none (some b) none p2) pos) (.sl 2 a' (.cons b' .nil)) := Ay (Nk Pd ha nk (Kn hb)) fun sg H Q q => by
 obtain ⟨rho, st, env, s, n, q⟩ := q
 simp only [aa, Dp, bc, bind_assoc] at q
 refine step s n q fun x st1 v H1 r1 k1 s1 n1 rx q1 => ?_
 refine step s1 n1 q1 fun y st2 u H2 r2 k2 s2 n2 ry q2 => ?_
 cases y with
 | int i => exact ⟨i, Aq.mp ry, pe hK (k := 2) (ds := [.int i]) rfl s2 (rx.mono k2) (RQ.mono (.refl _ _) q2 fun _ _ p => p.mono (k1.trans k2))⟩
 | _ => exact q2.elim
theorem ye {o : Op} {i j : Int} {st : Sto} {z : D} {st' : Sto} (h : opD o (.int i) (.int j) st = .ok z st') : ∃ k, z = .int k ∧ st' = st := by
 cases o <;> simp only [opD] at h <;> (try split at h) <;> first | (cases h; exact ⟨_, rfl, rfl⟩) | cases h
theorem Ye : PIp X .Mult (fun x y H Q => ∃ i j, x = .int i ∧ y = .int j ∧ Eu i j ∧ Q (.int (i * j)) H) := by
 rintro pins s sg H x y u v Q I rx ry ⟨i, j, rfl, rfl, hm, q⟩
 obtain ⟨t, rfl⟩ := (show ∃ t, u = Value.int i t from rx)
 obtain ⟨t', rfl⟩ := (show ∃ t', v = Value.int j t' from ry)
 exact PyProof.Rows.imul_int ⟨.int (i * j), H, I.tok _, ⟨_, rfl⟩, q⟩ hm.ok
theorem yf {i : Nat} {o : Op} {r : TIp} {sg : L2.St} {H : Hp} {D : Ends} (hr : ∀ x y H Q, (∃ k, opD o (.int x) (.int y) [] = .ok (.int k) [] ∧ Q (.int k) H) → r (.int x) (.int y) H Q)
    (hst : ∀ x y st, opD o (.int x) (.int y) st = match opD o (.int x) (.int y) [] with | .ok z _ => .ok z st | .exc c _ => .exc c st | .bad => .bad)
    (q : tS g F (.aug i o a') D sg H) : mw i (tE g a') r D sg H := by
  obtain ⟨rho, st, env, s, n, q⟩ := q
  simp only [Al] at q
  cases e : Cd env i with
  | none => rw [e] at q; exact q.elim
  | some d =>
    rw [e] at q
    cases d with
    | int x =>
      simp only at q
      have e' : env[i]? = some (some (.int x)) := by
        unfold Cd at e
        cases z : env[i]? with
        | none => rw [z] at e; cases e
        | some o => rw [z] at e; cases o with
          | none => cases e
          | some y => cases e; rfl
      obtain ⟨v, e1, r1⟩ := n.val i _ e'
      cases Aq.mp r1
      refine ⟨_, e1, step s n q fun y st1 w H1 r2 k1 s1 n1 ry q1 => ?_⟩
      cases y with
      | int j =>
        cases Aq.mp ry
        simp only at q1
        refine hr x j H1 _ ?_
        rw [hst] at q1
        cases ez : opD o (.int x) (.int j) [] with
        | bad => rw [ez] at q1; exact q1.elim
        | exc c t => exfalso; cases o <;> simp only [opD] at ez <;> (try split at ez) <;> cases ez
        | ok z t =>
          rw [ez] at q1
          obtain ⟨k, rfl, rfl⟩ := ye ez
          refine ⟨k, rfl, ?_⟩
          simp only [bc] at q1
          split at q1
          · exact (show Az g rho H D (.next _) st1 from q1) _ H1 r2 k1 s1 (n1.set i (Aq.mpr rfl))
          · exact q1.elim
      | _ => exact q1.elim
    | _ => exact q.elim
theorem Yf {i : Nat} {x : Str} {pt : Pos} (hN : X.N.Nodup) (hi : X.N[i]? = some x) (hx : Loc X.env.scope x) (ha : Sd g X a a') (hf : X.fn x = true ∨ X.env.scope.names.lookup x = some .local := by first | exact .inl rfl | exact .inr rfl | assumption) : SdS g X F (.AugAssign (.Name x pt) .Mult a pos) (.aug i .mul a') :=
 cy (uk hN hi hx ha Ye hf) fun D sg H q => yf (fun x y H Q ⟨k, e, q⟩ => by
  simp only [opD] at e
  split at e
  · rename_i h; cases e; exact ⟨x, y, rfl, rfl, h, q⟩
  · cases e) (fun x y st => by simp only [opD]; split <;> rfl) q
theorem Lg {rho : List Addr} {st : Sto} {H : Hp} {n k : Nat} {fs : List (Str × D)} (s : g.Sto rho st H) (h : st[n]? = some (.ins k fs)) : ∃ p dx ws, rho[n]? = some p ∧ H p = some (.ins (g.cls k) dx ws) ∧ ws.length = fs.length ∧ dy g.K rho H fs ws := by
 have hl : n < rho.length := by rw [s.len]; exact (List.getElem?_eq_some_iff.mp h).1
 obtain ⟨dx, ws, h1, h2, h3⟩ := s.cells n rho[n] _ (List.getElem?_eq_getElem hl) h
 exact ⟨_, dx, ws, List.getElem?_eq_getElem hl, h1, h2, h3⟩
theorem yg {rho : List Addr} {H : Hp} {fs : List (Str × D)} {ws : List (Str × V)} {f : Str} {d : D} (r : dy g.K rho H fs ws) (h : fs.lookup f = some d) : ∃ v, ws.lookup f = some v ∧ g.Rep rho H d v := by
 have q := r f
 rw [h] at q
 cases e : ws.lookup f with
 | none => rw [e] at q; exact q.elim
 | some v => rw [e] at q; exact ⟨v, rfl, q⟩
theorem Yg {rho : List Addr} {H : Hp} {fs : List (Str × D)} {ws : List (Str × V)} {f : Str} (r : dy g.K rho H fs ws) (h : fs.lookup f = none) : ws.lookup f = none := by
 have q := r f
 rw [h] at q
 cases e : ws.lookup f with
 | none => rfl
 | some v => rw [e] at q; exact q.elim
theorem Jd {f : Str} {k : Nat} (hcl : Cls X.K (g.cls k)) (hna : Cc X.K (g.cls k) f) (ha : Sd g X a a') (hb : attributeBase a f X.env (eval a X.env) = eval a X.env := by rfl) : Sd g X (.Attribute a f pos) (.fld k a' f) := Ay (Vj ha hb) fun sg H Q q => by
 obtain ⟨rho, st, env, s, n, q⟩ := q
 simp only [aa] at q
 refine step s n q fun x st1 v H1 r1 k1 s1 n1 rx q1 => ?_
 cases x with
 | loc m =>
  simp only at q1
  split at q1
  · rename_i k' fs e
    split at q1
    · rename_i d ed
      split at q1
      · rename_i hk
        subst hk
        obtain ⟨p, dx, ws, h1, h2, _, h3⟩ := Lg s1 e
        obtain ⟨p2, h4, rfl⟩ := bb.mp rx
        rw [h1] at h4; cases h4
        obtain ⟨w, e1, rw1⟩ := yg h3 ed
        exact ⟨p, g.cls k', dx, ws, w, rfl, h2, hcl, hna, e1, (show Ak g rho H Q d st1 from q1) _ H1 r1 k1 s1 rw1⟩
      · exact q1.elim
    · exact q1.elim
  · exact q1.elim
 | _ => exact q1.elim
theorem Pe (f h : Str) (v : D) : ∀ fs : List (Str × D), (Cu f v fs).lookup h = if h = f then some v else fs.lookup h
 | [] => by
  by_cases e : h = f
  · subst e; simp [Cu]
  · simp [Cu, List.lookup, e]; simp [beq_eq_false_iff_ne.mpr e]
 | (k, x) :: r => by
  unfold Cu
  by_cases ek : k = f
  · subst ek
    rw [if_pos rfl]
    by_cases e : h = k
    · subst e; simp
    · simp [List.lookup_cons, beq_eq_false_iff_ne.mpr e, e]
  · rw [if_neg ek, List.lookup_cons, List.lookup_cons, Pe f h v r]
    by_cases e : h = k
    · subst e; simp [ek]
    · simp [beq_eq_false_iff_ne.mpr e]
theorem yh (f : Str) (v : V) (d : D) : ∀ {ws : List (Str × V)} {fs : List (Str × D)} {rho : List Addr} {H : Hp}, ws.length = fs.length → (ws.lookup f = none ↔ fs.lookup f = none) → (bq f v ws).length = (Cu f d fs).length := by
 have l1 : ∀ ws : List (Str × V), (bq f v ws).length = if ws.lookup f = none then ws.length + 1 else ws.length := by
  intro ws
  induction ws with
  | nil => simp [bq]
  | cons p r ih =>
   obtain ⟨k, x⟩ := p
   unfold bq
   by_cases ek : k = f
   · subst ek; simp
   · have : (f == k) = false := beq_eq_false_iff_ne.mpr (Ne.symm ek)
     rw [if_neg ek, List.length_cons, ih, List.lookup_cons, this]
     split <;> simp_all
 have l2 : ∀ ws : List (Str × D), (Cu f d ws).length = if ws.lookup f = none then ws.length + 1 else ws.length := by
  intro ws
  induction ws with
  | nil => simp [Cu]
  | cons p r ih =>
   obtain ⟨k, x⟩ := p
   unfold Cu
   by_cases ek : k = f
   · subst ek; simp
   · have : (f == k) = false := beq_eq_false_iff_ne.mpr (Ne.symm ek)
     rw [if_neg ek, List.length_cons, ih, List.lookup_cons, this]
     split <;> simp_all
 intro ws fs rho H hl hi
 rw [l1, l2, hl]
 by_cases e : fs.lookup f = none
 · rw [if_pos e, if_pos (hi.mpr e)]
 · rw [if_neg e, if_neg (fun z => e (hi.mp z))]
theorem Yh {rho : List Addr} {H : Hp} {fs : List (Str × D)} {ws : List (Str × V)} {f : Str} {d : D} {v : V} (r : dy g.K rho H fs ws) (rv : g.Rep rho H d v) : dy g.K rho H (Cu f d fs) (bq f v ws) := fun h => by
 rw [Pe, Kj]
 by_cases e : h = f
 · rw [if_pos e, if_pos e]; exact rv
 · rw [if_neg e, if_neg e]; exact r h
theorem ff {o : Expr} {o' : E} {f : Str} {k : Nat} {pt : Pos} (hcl : Cls X.K (g.cls k)) (hna : Cc X.K (g.cls k) f) (ho : Sd g X o o') (ha : Sd g X a a') (hs : swapsWith a (some (.Attribute o f pt)) pos.line X.env = pure false := by rfl) : SdS g X F (.Assign [.Attribute o f pt] a pos) (.setf k o' f a') := cy (vk ho ha hs) fun D sg H q => by
 obtain ⟨rho, st, env, s, n, q⟩ := q
 simp only [Al] at q
 refine step s n q fun y st1 v H1 r1 k1 s1 n1 ry q1 => ?_
 refine step s1 n1 q1 fun x st2 u H2 r2 k2 s2 n2 rx q2 => ?_
 cases x with
 | loc m =>
  simp only at q2
  split at q2
  · rename_i k' fs e
    split at q2
    · rename_i hk
      obtain ⟨hl9, rfl⟩ := hk
      obtain ⟨p, dx, ws, h1, h2, hlen, h3⟩ := Lg s2 e
      obtain ⟨p2, h4, rfl⟩ := bb.mp rx
      rw [h1] at h4; cases h4
      refine ⟨p, g.cls k', dx, ws, rfl, h2, hcl, hna, by omega, ?_⟩
      have rv := ry.mono k2
      have hiff : ws.lookup f = none ↔ fs.lookup f = none := by
       have z := h3 f
       cases e1 : fs.lookup f <;> cases e2 : ws.lookup f <;> rw [e1, e2] at z <;> first | exact z.elim | simp
      obtain ⟨k3, s3⟩ := s2.wroteC (o := .ins (g.cls k') dx (bq f v ws)) (c1 := .ins k' (Cu f y fs)) h1 e rfl h2 ⟨fun _ => nofun, fun _ _ => nofun⟩ fun H3 eH kk => ⟨dx, _, eH, yh (rho := r2) (H := H2) f v y hlen hiff, (Yh h3 rv).mono kk⟩
      exact (show Az g rho H D (.next env) _ from q2) _ _ r2 ((k1.trans k2).trans k3) s3 (n2.mono k3)
    · exact q2.elim
  · exact q2.elim
 | _ => exact q2.elim
end DD
namespace DD
open PySem PySem.Spec L2
variable {g : G} {X : Cx} {a b c : Expr} {a' b' c' : E} {pos apos : Pos} {rest es : List Expr} {es' : Es} {F : Nat}
theorem pf {np f : Nat} {ds : List D} {vs : List V} {st : Sto} {rho : List Addr} {H : Hp} {Q : VK} (hl : ∀ ds st, ds.length ≠ np → g.call f ds st = .bad) (s : g.Sto rho st H) (r : g.RepL rho H ds vs) (q : RQ g (g.call f ds st) (Ak g rho H Q) rho H) : spD g.K g.cls np (g.call f) vs H Q g.xk := by
 have hlen : ds.length = np := Decidable.byContradiction fun z => by rw [hl _ _ z] at q; exact q
 refine ⟨by rw [← r.length]; exact hlen, rho, st, ds, s, r, ?_⟩
 revert q
 cases g.call f ds st with
 | ok d st' => exact fun q => q
 | exc c st' => exact fun q => q
 | bad => exact fun q => q
theorem yi {c f : Nat} {m : Str} {fa : Addr} {o' : E} {np : Nat} {sg : L2.St} {H : Hp} {Q : VK} {t : TA} (hl : ∀ ds st, ds.length ≠ np → g.call f ds st = .bad)
    (ht : ∀ {rho st env H K}, g.Sto rho st H → g.Env rho H env sg → RQ g ((As g.tab g.call es' env st).bind K) (Ak g rho H Q) rho H → True) (q : tE g (.Ds c f m o' es') sg H Q) :
    (tE g o' sg H fun x H1 => ∃ p dx ws, x = .ref p ∧ H1 p = some (.ins (g.cls c) dx ws) ∧ ws.lookup m = none ∧ tEs g es' sg H1 fun vs H2 => spD g.K g.cls np (g.call f) (x :: (vs ++ [])) H2 Q g.xk) := by
  obtain ⟨rho, st, env, s, n, q⟩ := q
  simp only [aa] at q
  refine step s n q fun x st1 v H1 r1 k1 s1 n1 rx q1 => ?_
  cases x with
  | loc j =>
    simp only at q1
    split at q1
    · rename_i c' fs e
      split at q1
      · rename_i hc
        obtain ⟨rfl, hn⟩ := hc
        obtain ⟨p, dx, ws, h1, h2, _, h3⟩ := Lg s1 e
        have rx' := rx
        obtain ⟨p2, h4, rfl⟩ := bb.mp rx
        rw [h1] at h4; cases h4
        refine ⟨p, dx, ws, rfl, h2, Yg h3 hn, dq s1 n1 q1 fun ds st2 vs H2 r2 k2 s2 n2 rps q2 => ?_⟩
        rw [List.append_nil]
        exact pf hl s2 (by simp only [RepL]; exact ⟨_, _, rfl, rx'.mono k2, rps⟩) (RQ.mono (.refl _ _) q2 fun _ _ p => p.mono (k1.trans k2))
      · exact q1.elim
    · exact q1.elim
  | _ => exact q1.elim
theorem Pf {cc k f : Nat} {m : Str} {fa : Addr} {fd : FuncData} {ps : List Str} {o e : Expr} {o' : E} {np : Nat} {pl : Sem Bool} (hcl : Cls X.K (g.cls cc)) (hm : Meth X.K (g.cls cc) m fa)
    (Fn : FnOk X.prog X.w X.K X.mg X.base (CXd X.prog X.w) k fa fd ps (spD g.K g.cls np (g.call f))) (hr : Room k X.A) (hb : Binds X.K fd ps []) (hx : Passes (CXd X.prog X.w) X g.xk) (hl : ∀ ds st, ds.length ≠ np → g.call f ds st = .bad)
    (ho : Sd g X o o') (ha : SdL g X (e :: es) es') (hst : starEach (e :: es) X.env = (false, eval e X.env) :: starEach es X.env := by rfl) (hpl : (backTo pos (starEach es X.env)).any (·.1) = false := by rfl)
    (ht : eval (.Call (.Attribute o m apos) (e :: es) [] pos) X.env = (do
      let ov ← eval o X.env
      standAt apos.atName
      let (f, first) ← holding [ov] (getMethod ov m pl)
      callWith pos f first (backTo pos (starEach (e :: es) X.env)) (backToKw pos (keywordEach [] X.env))) := by rfl) :
    Sd g X (.Call (.Attribute o m apos) (e :: es) [] pos) (.Ds cc f m o' es') :=
  Ay (vq (dvs := []) (ds := []) ho hcl hm Fn hr hb .nil hx ha hst hpl ht) fun sg H Q q => yi (fa := fa) (t := fun _ _ _ => True) hl (fun _ _ _ => trivial) q
theorem Yi {cc f : Nat} {np : Nat} {ds : List D} {vs : List V} {st : Sto} {rho : List Addr} {H : Hp} {Q : VK} (hl : ∀ ds st, ds.length ≠ np → g.call f ds st = .bad) (s : g.Sto rho st H) (r : g.RepL rho H ds vs)
    (q : RQ g ((g.call f (.loc st.length :: ds) (st ++ [.ins cc []])).bind fun r st' => match r with | .non => .ok (.loc st.length) st' | _ => .bad) (Ak g rho H Q) rho H) :
    ∀ x dx, H x = none → H dx = none → dx ≠ x → spD g.K g.cls np (g.call f) (.ref x :: (vs ++ [])) (upd (upd H dx (.own x)) x (.ins (g.cls cc) dx [])) (fun v H2 => v = .non ∧ Q (.ref x) H2) g.xk := by
  intro x dx hx hdx hne
  have e1 := Fb hdx (.own x)
  have s1 := s.same e1
  have hx1 : upd H dx (.own x) x = none := by rw [bj (Ne.symm hne)]; exact hx
  obtain ⟨k2, s2⟩ := s1.laid hx1 (o := .ins (g.cls cc) dx []) (c := .ins cc []) ⟨dx, [], cj, rfl, fun f => trivial⟩
  have kk := (Bd.keep e1 rho).trans k2
  rw [List.append_nil]
  refine pf hl s2 (ds := .loc st.length :: ds) (by simp only [RepL]; exact ⟨_, _, rfl, bb.mpr ⟨x, by rw [← s.len]; simp, rfl⟩, r.mono kk⟩) ?_
  revert q
  cases g.call f (.loc st.length :: ds) (st ++ [.ins cc []]) with
  | bad => exact fun q => q
  | exc c st' => exact fun q H' rho' k s' => q H' rho' (kk.trans k) s'
  | ok d st' =>
    simp only [bc]
    cases d with
    | non =>
      intro q v H' rho' k s' rv
      refine ⟨Cr.mp rv, (show Ak g rho H Q (.loc st.length) st' from q) _ H' rho' (kk.trans k) s' (bb.mpr ⟨x, k.at ?_, rfl⟩)⟩
      rw [← s.len]; simp
    | _ => exact fun q => q.elim
theorem yj {cc k f : Nat} {x : Str} {fa : Addr} {fd : FuncData} {ps : List Str} {e : Expr} {np : Nat} {p : Pos} (M : Mk X.K (g.cls cc) fa) (Fn : FnOk X.prog X.w X.K X.mg X.base (CXd X.prog X.w) k fa fd ps (spD g.K g.cls np (g.call f))) (hr : Room (k + 1) X.A) (hg : Gl X x) (hm : X.mg x = some (.ref (g.cls cc)))
    (hb : Binds X.K fd ps []) (hx : Passes (CXd X.prog X.w) X g.xk) (hl : ∀ ds st, ds.length ≠ np → g.call f ds st = .bad) (ha : SdL g X (e :: es) es') (hdb : (x == ("__debug__" : Str)) = false := by decide) (he : starEach (e :: es) X.env = (false, eval e X.env) :: starEach es X.env := by rfl) (hpl : (backTo pos (starEach es X.env)).any (·.1) = false := by rfl) :
    Sd g X (.Call (.Name x p) (e :: es) [] pos) (.mk cc f es') := Ay (Vr (dvs := []) (ds := []) M Fn hr hg hm hb .nil hx ha hdb he hpl) fun sg H Q q => by
  obtain ⟨rho, st, env, s, n, q⟩ := q
  simp only [aa] at q
  refine dq s n q fun ds st1 vs H1 r1 k1 s1 n1 rps q1 => ?_
  exact Yi hl s1 rps (RQ.mono (.refl _ _) q1 fun _ _ p => p.mono k1)
end DD
namespace DD
open PySem PySem.Spec L2
variable {g : G} {X : Cx} {a b c : Expr} {a' b' c' : E} {pos apos cpos : Pos} {rest es : List Expr} {es' : Es} {F : Nat}
theorem Yj {st : Sto} {d : D} (h : Ew st d = true) : ∃ m xs, d = .loc m ∧ st[m]? = some (.lst xs) := by
 cases d with
 | loc m =>
  simp only [Ew] at h
  split at h
  · rename_i xs e; exact ⟨m, xs, rfl, e⟩
  · cases h
 | _ => cases h
theorem RepL.dropLast {rho : List Addr} {H : Hp} : ∀ {ds : List D} {vs : List V}, g.RepL rho H ds vs → g.RepL rho H ds.dropLast vs.dropLast
 | [], vs, r => by simp only [DD.RepL] at r; subst r; simp [DD.RepL]
 | [d], vs, r => by
  simp only [DD.RepL] at r
  obtain ⟨v, w, rfl, _, rfl⟩ := r
  simp [DD.RepL]
 | d :: e :: t, vs, r => by
  simp only [DD.RepL] at r
  obtain ⟨v, w, rfl, r1, v2, w2, rfl, r2, r3⟩ := r
  show g.RepL rho H (d :: (e :: t).dropLast) (v :: (v2 :: w2).dropLast)
  simp only [DD.RepL]
  exact ⟨v, _, rfl, r1, RepL.dropLast (ds := e :: t) (vs := v2 :: w2) (by simp only [DD.RepL]; exact ⟨v2, w2, rfl, r2, r3⟩)⟩
theorem yk {o : Expr} {o' : E} (hK : X.K = g.K) (ho : Sd g X o o') (hbase : attributeBase o "pop" X.env (eval o X.env) = eval o X.env := by rfl) (hline : (apos.endLine == cpos.line) = true := by rfl) : Sd g X (.Call (.Attribute o "pop" apos) [] [] cpos) (.mt .pop o' .nil) :=
 Ay (Wf PySem.F.plainAttrs_list PySem.F.slot_list_pop PySem.F.type_list_pop wj ho hbase hline) fun sg H Q q => by
  obtain ⟨rho, st, env, s, n, q⟩ := q
  simp only [aa] at q
  refine step s n q fun d st1 x H1 r1 k1 s1 n1 rp q1 => ?_
  split at q1
  · rename_i hl
    obtain ⟨m, xs, rfl, el⟩ := Yj hl
    obtain ⟨p, vs, hr, hH, rl⟩ := fc s1 el
    obtain ⟨p2, hr2, rfl⟩ := bb.mp rp
    rw [hr] at hr2; cases hr2
    simp only [As, bc, mtD, el] at q1
    split at q1
    · rename_i d ed
      rw [List.getLast?_eq_getElem?] at ed
      obtain ⟨w, e1, rw1⟩ := rl.get ed
      rw [rl.length] at e1
      refine ⟨.inl ⟨rfl, vs, SqL.of hH⟩, p, vs, w, rfl, rfl, hH, e1, ?_⟩
      obtain ⟨k3, s3⟩ := s1.wrote hr el hH (RepL.dropLast rl)
      exact (show Ak g rho H Q d _ from q1) _ _ r1 (k1.trans k3) s3 (rw1.mono k3)
    · exact q1.elim
  · exact q1.elim
theorem Pg {rho : List Addr} {H : Hp} : ∀ {ds : List D} {vs : List V} {us : List Value} {bs : List Bool}, g.RepL rho H ds vs → Vals vs us → dn ds = some bs → us = bs.map Value.bool
 | [], vs, us, bs, r, rv, e => by
  simp only [RepL] at r; subst r
  cases rv
  simp [dn] at e; subst e; rfl
 | d :: t, vs, us, bs, r, rv, e => by
  simp only [RepL] at r
  obtain ⟨v, w, rfl, r1, r2⟩ := r
  cases d with
  | bl b =>
   simp only [dn] at e
   cases et : dn t with
   | none => rw [et] at e; cases e
   | some bs' =>
    rw [et] at e; cases e
    cases az.mp r1
    cases rv with
    | cons q1 q2 =>
     cases q1
     rw [Pg r2 q2 et]; rfl
  | _ => cases e
theorem range_all (bs : List Bool) : (List.range bs.length).all (fun i => bs.getD i false) = bs.all id := by
 rw [Bool.eq_iff_iff, List.all_eq_true, List.all_eq_true]
 constructor
 · intro h b hb
   obtain ⟨i, hi, rfl⟩ := List.mem_iff_getElem.mp hb
   have := h i (List.mem_range.mpr hi)
   simpa [hi] using this
 · intro h i hi
   have hi := List.mem_range.mp hi
   have := h bs[i] (List.getElem_mem hi)
   simpa [hi] using this
def lh (g : G) (all : Bool) : List V → Hp → VK → Prop := fun xs H Q => ∃ rho st m ds bs p, xs = [.ref p] ∧ g.Sto rho st H ∧ rho[m]? = some p ∧ Am st m = some ds ∧ dn ds = some bs ∧ Q (.bl (if all then bs.all id else bs.any id)) H
theorem Yk (hK : X.K = g.K) (hc : X.calm = true) {pins : List (Addr × Obj)} {s : Shared} {sg : L2.St} {H : Hp} {rho : List Addr} {st : Sto} {m : Nat} {ds : List D} {bs : List Bool} {p : Addr} {R : Bool → Prop} {QQ : Value → Shared → Prop} (I : Inv X pins sg H s) (S : g.Sto rho st H) (hr : rho[m]? = some p) (hl : Am st m = some ds) (hb : dn ds = some bs)
    (hQ : ∀ (it : Addr) (s₂ : Shared) (fp wr : List Addr) (P : Nat → Value → Prop) (St : Nat → Heap → Prop), Walks X.prog X.w X.A.in1 it fp wr bs.length P St → St 0 s₂.heap → TruthOf X.prog X.w X.A.in1 P (fun i => bs.getD i false) →
      (∀ h' tk, (∀ b o, b ∉ wr → s₂.heap.get? b = some o → h'.get? b = some o) → Inv X pins sg H { s₂ with heap := h', toks := tk }) → QQ (.ref it) s₂) :
    wpAny (model X.prog X.w) X.A.in1 (pyIter (.ref p)) QQ X.xe s := by
  obtain ⟨p2, vs, h1, sq, rl⟩ := Dg S hl
  rw [hr] at h1; cases h1
  rw [← hK] at sq
  obtain ⟨its, rv, pl, hz⟩ := I.list sq
  have e := Pg rl rv hb
  subst e
  have hlt : p < s.heap.objs.size := by
    obtain ⟨o, ho, _⟩ := pl.isList
    exact Heap.lt_size ho
  refine wpAny_pyIter_list pl.isList (hQ _ _ [s.heap.objs.size, p] [s.heap.objs.size] (fun i v => (bs.map Value.bool).toArray[i]? = some v) (fun i h => h.IsListIter s.heap.objs.size p i ∧ h.IsList p (bs.map Value.bool).toArray) ?_ ⟨?_, ?_⟩ ?_ ?_)
  · have W := Walks.list (prog := X.prog) (w := X.w) (A := X.A.in1) (I.ok.hd hc) s.heap.objs.size p (Nat.ne_of_lt hlt) (bs.map Value.bool).toArray
    simpa using W
  · exact ⟨_, Heap.get?_push_size _ rfl, rfl, rfl⟩
  · exact pl.isList.push _
  · intro i v s Q E hP hQ
    have hP : (bs.map Value.bool)[i]? = some v := by simpa using hP
    rw [List.getElem?_map] at hP
    cases eb : bs[i]? with
    | none => rw [eb] at hP; cases hP
    | some b =>
      rw [eb] at hP; cases hP
      have : bs.getD i false = b := by simp [List.getD, eb]
      have hQ : Q (bs.getD i false) s := hQ
      rw [this] at hQ
      exact wpAny_truthy_bool hQ
  · intro h' tk hk
    refine I.kept (t' := tk) (h' := h') fun b u e => hk b u ?_ (Heap.get?_push_of_some _ e)
    intro z
    simp at z
    subst z
    exact Nat.lt_irrefl _ (Heap.lt_size e)
theorem yl (hK : X.K = g.K) (hc : X.calm = true) : cu X (.builtin "all") (lh g true) := by
 rintro pins s sg H xs us Q I r ⟨rho, st, m, ds, bs, p, rfl, S, hr, hl, hb, q⟩
 obtain ⟨u, rfl, ru⟩ := vals1 r
 cases ru
 refine call_all_walk (Yk (R := fun _ => True) hK hc I S hr hl hb fun it s₂ fp wr P St W hst htr hk => ⟨it, fp, wr, bs.length, P, St, _, rfl, W, hst, htr, fun h' tk k => ?_⟩)
 rw [range_all]
 exact ⟨.bl _, H, hk h' tk k, rfl, q⟩
theorem Yl {f : Bt} {al : Bool} (hf : f = if al then .allB else .anyB) {ds : List D} {vs : List V} {st : Sto} {rho : List Addr} {H : Hp} {Q : VK} (s : g.Sto rho st H) (r : g.RepL rho H ds vs) (q : RQ g (btD f ds st) (Ak g rho H Q) rho H) : lh g al vs H Q := by
 obtain ⟨d, rfl⟩ := jd (by cases al <;> subst hf <;> exact ⟨by decide, by decide⟩) q
 obtain ⟨v, rfl, r1⟩ := Fu r
 have go : ∀ n, d = .loc n → (∃ bs, (Am st n).bind dn = some bs ∧ Ak g rho H Q (.bl (if al then bs.all id else bs.any id)) st) → lh g al [v] H Q := by
  rintro n rfl ⟨bs, e, q⟩
  cases el : Am st n with
  | none => rw [el] at e; cases e
  | some xs =>
   rw [el] at e
   obtain ⟨p, h1, rfl⟩ := bb.mp r1
   exact ⟨rho, st, n, xs, bs, p, rfl, s, h1, el, e, q _ H rho (.refl _ _) s (az.mpr rfl)⟩
 cases al with
 | true =>
  subst hf
  cases d with
  | loc n =>
   simp only [if_true, btD] at q
   split at q
   · rename_i bs e; exact go n rfl ⟨bs, e, q⟩
   · exact q.elim
  | _ => exact q.elim
 | false =>
  subst hf
  cases d with
  | loc n =>
   simp only [Bool.false_eq_true, if_false, btD] at q
   split at q
   · rename_i bs e; exact go n rfl ⟨bs, e, q⟩
   · exact q.elim
  | _ => exact q.elim
theorem Hw {e : Expr} {p : Pos} (hK : X.K = g.K) (hc : X.calm = true) (hg : Gl X "all") (hm : X.mg "all" = none) (ha : SdL g X (e :: es) es') (he : starEach (e :: es) X.env = (false, eval e X.env) :: starEach es X.env := by rfl) (hpl : (backTo pos (starEach es X.env)).any (·.1) = false := by rfl) :
    Sd g X (.Call (.Name "all" p) (e :: es) [] pos) (.bt .allB es') := Ay (ir (yl hK hc) hg hm rfl ha (by decide) (by decide) he hpl) fun sg H Q q => bts (f := .allB) (fun ds vs st rho H Q s r q => Yl (al := true) rfl s r q) q
end DD
namespace DD
open PySem PySem.Spec L2
open PyProof.Rows hiding St RelV
variable {g : G} {X : Cx} {pos : Pos} {F : Nat}
def je (g : G) (e : Es) : TT := fun sg H Q => ∃ rho st env, g.Sto rho st H ∧ g.Env rho H env sg ∧ RQ g (Bo g.tab g.call e env st) (Cq g rho H Q) rho H
def PTs (X : Cx) (ifs : List Expr) (t : TT) : Prop := ∀ (pins : List (Addr × Obj)) (s : Shared) (sg : L2.St) (H : Hp) (Q : Bool → Hp → Prop), Inv X pins sg H s → t sg H Q →
 wpAny (model X.prog X.w) X.A (forIn ifs true fun c r => if r = true then do let ok ← isTrue c X.env (eval c X.env); pure (ForInStep.yield ok) else pure (ForInStep.yield r)) (TP X pins sg Q) X.xe s
theorem dh : PTs X [] (je g .nil) := fun pins s sg H Q I q => by
 obtain ⟨rho, st, env, S, n, q⟩ := q
 simp only [Bo] at q
 exact wpAny_tests_nil ⟨H, I, (show Cq g rho H Q true st from q) H rho (.refl _ _) S⟩
abbrev Lh (X : Cx) (scope : Scope) (cl : List (Str × Addr)) (L : Addr) : PySem.Env := { newEnv scope L X.env.globals cl X.env.qual none .none (some X.env) builtinsNs with scope := relabel scope X.env }
abbrev cxG (X : Cx) (N : List Str) (scope : Scope) (cl : List (Str × Addr)) (L : Addr) (s0 : Shared) (H0 : Hp) (fp : List Addr) (pn : List (Addr × Obj)) : Cx :=
 { X with N := N, s₀ := s0, H₀ := H0, env := Lh X scope cl L, outer := X.stack, stack := X.stack, ex := fp, fn := fun x => (cl.lookup x).isNone, pn := pn, xe := fun _ _ => False }
theorem Li {pins : List (Addr × Obj)} {sg : L2.St} {H H2 : Hp} {s : Shared} (I : L2.Inv X pins sg H s) {b : Addr} (h : ck X pins H2 b) : b ∉ frs X.stack := fun hm => by
 rcases List.mem_cons.mp (I.stkSub b hm) with z | z
 · exact h.2.1 z
 · exact h.2.2.1 z
structure Clos (X : Cx) (scope : Scope) (cl : List (Str × Addr)) : Prop where
 sub : ∀ x c, cl.lookup x = some c → X.env.cells.lookup x = some c
 has : ∀ x, ((relabel scope X.env).names.lookup x = some .cell ∨ (relabel scope X.env).names.lookup x = some .free) → ∃ c, cl.lookup x = some c
theorem ph {pins : List (Addr × Obj)} {sg : L2.St} {H : Hp} {s3 : Shared} {N : List Str} {nl : Nat} {fv : List Nat} {scope : Scope} {cl : List (Str × Addr)} {fp : List Addr} {h1 : Heap} {m : Str → Option Value} {tk : Nat} (hkind : scope.kind = .function) (C : Clos X scope cl)
    (hN : N.length = nl + fv.length) (hfv : ∀ j k, fv[j]? = some k → ∃ x c, N[nl + j]? = some x ∧ X.N[k]? = some x ∧ cl.lookup x = some c ∧ (X.env.scope.names.lookup x = some .cell ∨ X.env.scope.names.lookup x = some .free) ∧ ((relabel scope X.env).names.lookup x = some .cell ∨ (relabel scope X.env).names.lookup x = some .free))
    (I : L2.Inv X pins sg H s3) (hfp : ∀ b ∈ fp, ck X pins H b ∧ b < s3.heap.objs.size) (hn : h1.Ns s3.heap.objs.size m) (hk : ∀ b o, s3.heap.get? b = some o → h1.get? b = some o) :
    L2.Inv (cxG X N scope cl s3.heap.objs.size s3 H fp (X.pn ++ pins)) [] (List.replicate nl none ++ fv.map fun k => (sg[k]?).join) H { s3 with heap := h1, toks := tk } := by
  have fsF : ∀ b, b < s3.heap.objs.size → b ≠ s3.heap.objs.size := fun b h z => by rw [z] at h; exact Nat.lt_irrefl _ h
  refine ⟨⟨I.ok.mod, hkind, I.ok.glob, I.ok.blt, Nat.le_refl _, fun x y c h1 h2 => I.ok.inj x y c (C.sub x c h1) (C.sub y c h2), fun y hy => C.has y hy, fun y c hy h => ?_, I.ok.hd, I.ok.frames, .inl rfl, fun b hb => ⟨fsF b (hfp b hb).2, fun y c h => (hfp b hb).1.2.2.2.2.1 y c (C.sub y c h)⟩, I.bs, Nat.le_trans I.ok.bsz I.sz, fun b o e hb => ?_, fun b hb => Li I (hfp b hb).1, I.stack, I.stkFree⟩,
    rfl, I.bare, Un.kept hk, ⟨m, hn, fun i y v e1 e2 _ => ?_⟩, fun y c h => ?_, I.hok.fresh (Nat.le_refl _), fun y c h => I.freeC y c (C.sub y c h), fun p hp => ?_, I.hok.kept hk, ?_⟩
  · have h : cl.lookup y = some c := h
    have hy : (cl.lookup y).isNone = true := hy
    rw [h] at hy; cases hy
  · obtain ⟨f, _⟩ := hfp b hb
    rcases f.2.2.2.1 with z | z
    · exact I.ok.noex b o e z
    · exact absurd (Nat.lt_of_lt_of_le (Heap.lt_size e) (Nat.le_trans I.ok.bsz z)) (Nat.lt_irrefl _)
  · by_cases hi : i < nl
    · rw [List.getElem?_append_left (by simpa using hi), List.getElem?_replicate] at e2
      split at e2 <;> cases e2
    · rw [List.getElem?_append_right (by simp; omega)] at e2
      simp only [List.length_replicate, List.getElem?_map] at e2
      cases ek : fv[i - nl]? with
      | none => rw [ek] at e2; cases e2
      | some k =>
        rw [ek] at e2
        simp only [Option.map_some, Option.some.injEq] at e2
        obtain ⟨x, c, n1, n2, n3, n4, n5⟩ := hfv _ k ek
        have ei : nl + (i - nl) = i := by omega
        rw [ei] at n1
        have e1 : N[i]? = some y := e1
        rw [n1] at e1; cases e1
        have e3 : sg[k]? = some (some v) := by
          cases z : sg[k]? with
          | none => rw [z] at e2; cases e2
          | some o => rw [z] at e2; cases o with
            | none => cases e2
            | some w => cases e2; rfl
        obtain ⟨m0, hm0, hl⟩ := I.loc
        obtain ⟨u, ru, lk⟩ := hl k _ v n2 e3 (by rcases n4 with z | z; exact .inr (.inl z); exact .inr (.inr z))
        refine ⟨u, ru, .inr ⟨n5, c, n3, ?_⟩⟩
        rcases lk with ⟨k1, _⟩ | ⟨_, c2, k2, k3⟩
        · have k1 : X.env.scope.names.lookup y = some .local := k1
          rcases n4 with z | z <;> (rw [z] at k1; cases k1)
        · rw [C.sub _ c n3] at k2; cases k2
          obtain ⟨o, ho, hd⟩ := k3
          exact ⟨o, hk _ _ ho, hd⟩
  · obtain ⟨v, o, ho, hd⟩ := I.cell y c (C.sub y c h)
    exact ⟨v, o, hk _ _ ho, hd⟩
  · rw [List.append_nil] at hp
    obtain ⟨p1, p2, p3, p4, p5⟩ := I.pin p hp
    refine ⟨hk _ _ p1, p2, fsF _ (Heap.lt_size p1), fun hm => ?_, p5⟩
    rcases List.mem_cons.mp (I.stkSub p.1 hm) with z | z
    · exact p3 z
    · exact p4 z
  · show (List.replicate nl none ++ fv.map _).length = N.length
    simp [hN]
theorem ym {prog : Program} {w : World} {A : Around} {R : Result → Shared → Prop} {s : Shared} {elt target iter : Expr} {ifs : List Expr} {scope : Scope} {it acc : Value} {env : PySem.Env} (I : Nat → Shared → Prop)
    (turn : ∀ n s, I n s → wpAny (model prog w) A (pyNext it) (fun r s₁ => match r with
      | none => R (.ok .next) s₁
      | some v => wpAny (model prog w) A (letOwnedTupleGo target it v) (fun _ s₁ => wpAny (model prog w) A (assign target env v) (fun _ s₂ =>
          wpAny (model prog w) A (forIn ifs true fun c r => if r = true then do let ok ← isTrue c env (eval c env); pure (ForInStep.yield ok) else pure (ForInStep.yield r)) (fun ok s₃ =>
            if ok = true then wpAny (model prog w) A (eval elt env) (fun x s₄ =>
              wpAny (model prog w) A (call (.builtin "list.append") [acc, x]) (fun _ s₅ => ∃ m, m < n ∧ I m s₅) (notedBy (model prog w) A env fun e s' => R (.error e) s') s₄) (notedBy (model prog w) A env fun e s' => R (.error e) s') s₃
            else ∃ m, m < n ∧ I m s₃) (notedBy (model prog w) A env fun e s' => R (.error e) s') s₂) (notedBy (model prog w) A env fun e s' => R (.error e) s') s₁) (notedBy (model prog w) A env fun e s' => R (.error e) s') s₁) (notedBy (model prog w) A env fun e s' => R (.error e) s') s)
    (n : Nat) (h : I n s) : codeAny (model prog w) A (.compLoop (.ListComp elt [⟨target, iter, ifs, 0⟩] scope pos) 0 it acc env) R s := by
  refine codeAny_loop rfl I (fun n s hI => ?_) n h
  show wpAny _ _ ((compTurn (.ListComp elt [⟨target, iter, ifs, 0⟩] scope pos) 0 it acc env).onRaise (fun x => do noteFrame x env; theTreesLotGoes x)) _ _ s
  refine wpAny_noted ?_
  rw [compTurn_list]
  refine wpAny_bind (wpAny_standAt (wpAny_bind (wpAny_mono (turn n s hI) (fun r s₁ h₁ => ?_) fun _ _ h' => h')))
  cases r with
  | none => exact wpAny_pure h₁
  | some v =>
    refine wpAny_bind (wpAny_mono h₁ (fun _ s₁ h₁ => ?_) fun _ _ h' => h')
    refine wpAny_bind (wpAny_mono h₁ (fun _ s₂ h₂ => wpAny_bind (wpAny_mono h₂ (fun ok s₃ h₃ => ?_) fun _ _ h' => h')) fun _ _ h' => h')
    cases ok with
    | false => exact wpAny_pure ⟨rfl, h₃⟩
    | true =>
      exact wpAny_bind (wpAny_bind (wpAny_mono h₃ (fun x s₄ h₄ => wpAny_bind (wpAny_mono h₄ (fun _ s₅ h₅ => wpAny_pure (wpAny_pure ⟨rfl, h₅⟩)) fun _ _ h' => h')) fun _ _ h' => h'))
end DD
namespace DD
open PySem PySem.Spec L2
open PyProof.Rows hiding St RelV
variable {g : G} {X : Cx} {pos : Pos} {F : Nat}
def ItJ (g : G) (J : It) (xs : List D) (p : Option Nat) (r1 : List Addr) (H1 : Hp) : Prop := ∀ rho st H, g.Keep r1 H1 rho H → g.Sto rho st H → stays st p xs = true → J.stop xs.length H ∧ ∀ (i : Nat) (d : DD.D), xs[i]? = some d → J.go i H ∧ ∀ x H', J.yld i H x H' → Bd H H' ∧ g.Rep rho H' d x
theorem lj {rho : List Addr} {H H' : Hp} {d : DD.D} {x : V} (e : H' = H) (r : g.Rep rho H d x) : Bd H H' ∧ g.Rep rho H' d x := by
 subst e; exact ⟨fun _ _ h => h, r⟩
def SdI (g : G) (X : Cx) (target iter : Expr) (n : Nat) (it' : E) : Prop := ∃ wi : TI, PI X target iter wi ∧ ∀ rho st env sg H (R : It → Hp → Prop), g.Sto rho st H → g.Env rho H env sg →
 RQ g (aa g.tab g.call it' env st) (fun d st1 => ∃ xs p, Cp n st1 d = some (xs, p) ∧ ∀ H1 r1 J, g.Keep rho H r1 H1 → g.Sto r1 st1 H1 → ItJ g J xs p r1 H1 → R J H1) rho H → wi sg H R
theorem Eb {target iter : Expr} {it' : E} (hK : X.K = g.K) (h : Sd g X iter it') : SdI g X target iter 0 it' := by
 refine ⟨_, Mw h, fun rho st env sg H R s n q => ?_⟩
 refine ⟨rho, st, env, s, n, ?_⟩
 revert q
 cases aa g.tab g.call it' env st with
 | bad => exact fun q => q
 | exc c st1 => exact fun q => q
 | ok d st1 =>
  rintro ⟨xs, p, e, q⟩ v H1 r1 k1 s1 rv
  cases d with
  | loc m =>
   simp only [Cp] at e
   cases el : Am st1 m with
   | none => rw [el] at e; cases e
   | some ds =>
    rw [el] at e; cases e
    obtain ⟨a, vs, hr, sq, rl⟩ := Dg s1 el
    obtain ⟨a2, hr2, rfl⟩ := bb.mp rv
    rw [hr] at hr2; cases hr2
    refine ⟨a, rfl, ⟨vs, by rw [hK]; exact sq⟩, q H1 r1 _ k1 s1 ?_⟩
    rw [hK]
    intro rho st H kk s hst
    have hst : Am st m = some xs := of_decide_eq_true hst
    obtain ⟨p3, ws, hr3, sq3, rl3⟩ := Dg s hst
    rw [kk.at hr] at hr3; cases hr3
    refine ⟨⟨ws, sq3, by rw [← rl3.length]; exact Nat.le_refl _⟩, fun i d hd => ?_⟩
    obtain ⟨v, hv, rv⟩ := rl3.get hd
    refine ⟨⟨ws, v, sq3, hv⟩, fun x H' y => lj y.1 ?_⟩
    have := y.2 ws sq3
    rw [hv] at this; cases this
    exact rv
  | _ => cases e
theorem Ym {target iter : Expr} {it' : E} (hK : X.K = g.K) (h : Sd g X iter it') : SdI g X target iter 1 it' := by
 refine ⟨_, mx h, fun rho st env sg H R s n q => ?_⟩
 refine ⟨rho, st, env, s, n, ?_⟩
 revert q
 cases aa g.tab g.call it' env st with
 | bad => exact fun q => q
 | exc c st1 => exact fun q => q
 | ok d st1 =>
  rintro ⟨xs, p, e, q⟩ v H1 r1 k1 s1 rv
  cases d with
  | tup ds =>
   simp only [Cp] at e; cases e
   obtain ⟨a, vs, rfl, sq, rl⟩ := br.mp rv
   refine ⟨a, rfl, ⟨vs, by rw [hK]; exact sq⟩, q H1 r1 _ k1 s1 ?_⟩
   rw [hK]
   intro rho st H kk s hst
   have sq3 := kk.tup a vs sq
   have rl3 := rl.mono kk
   refine ⟨⟨vs, sq3, by rw [← rl3.length]; exact Nat.le_refl _⟩, fun i d hd => ?_⟩
   obtain ⟨v, hv, rv⟩ := rl3.get hd
   refine ⟨⟨vs, v, sq3, hv⟩, fun x H' y => lj y.1 ?_⟩
   have := y.2 vs sq3
   rw [hv] at this; cases this
   exact rv
  | _ => cases e
def Lj (g : G) (tg : List Nat) (one : Bool) (env0 : Env) (ifs : Es) (elt : E) (d : D) (st : Sto) : Res (Option D) := match store tg one d env0 with
 | some env' => (Bo g.tab g.call ifs env' st).bind fun b st => if b then (aa g.tab g.call elt env' st).bind fun y st => .ok (some y) st else .ok none st
 | none => .bad
theorem Lk {all : List D} {p : Option Nat} {n0 : Nat} {body : D → Sto → Res (Option D)} {c : Nat} {st' : Sto} : ∀ {xs : List D} {st : Sto}, compLoop all p n0 body xs st ≠ .exc c st'
 | [], st => by
  simp only [compLoop]
  split <;> (intro h; cases h)
 | d :: r, st => by
  simp only [compLoop]
  split
  · split
    · split
      · split
        · exact Lk
        · intro h; cases h
      · intro h; cases h
    · exact Lk
    · intro h; cases h
  · intro h; cases h
theorem ll {nl : Nat} : ∀ {is : List Nat} {ds : List D} {env env' : Env}, Bq is ds env = some env' → (∀ i ∈ is, i < nl) → env'.length = env.length ∧ ∀ j, nl ≤ j → env'[j]? = env[j]?
 | [], [], env, env', e, _ => by simp only [Bq] at e; cases e; exact ⟨rfl, fun _ _ => rfl⟩
 | [], _ :: _, env, env', e, _ => by simp [Bq] at e
 | _ :: _, [], env, env', e, _ => by simp [Bq] at e
 | i :: r, d :: t, env, env', e, h => by
  simp only [Bq] at e
  split at e
  · obtain ⟨h1, h2⟩ := ll e fun k hk => h k (List.mem_cons_of_mem _ hk)
    have hi := h i List.mem_cons_self
    refine ⟨by rw [h1]; simp, fun j hj => ?_⟩
    rw [h2 j hj, List.getElem?_set_ne (by omega)]
  · cases e
theorem Ph {nl : Nat} {is : List Nat} {one : Bool} {d : D} {env env' : Env} (e : store is one d env = some env') (h : ∀ i ∈ is, i < nl) : env'.length = env.length ∧ ∀ j, nl ≤ j → env'[j]? = env[j]? := by
 unfold store at e
 cases one with
 | true => rw [if_pos rfl] at e; exact ll e h
 | false =>
  rw [if_neg Bool.false_ne_true] at e
  cases d with
  | tup ds => exact ll e h
  | _ => cases e
theorem pj {nl : Nat} {fv : List Nat} {env : Env} {j : Nat} {d : D} (h : (bo nl fv env)[j]? = some (some d)) : nl ≤ j ∧ ∃ k, fv[j - nl]? = some k ∧ Cd env k = some d := by
 unfold bo at h
 by_cases hj : j < nl
 · rw [List.getElem?_append_left (by simpa using hj), List.getElem?_replicate] at h
   split at h <;> cases h
 · refine ⟨by omega, ?_⟩
   rw [List.getElem?_append_right (by simp; omega)] at h
   simp only [List.length_replicate, List.getElem?_map] at h
   cases ek : fv[j - nl]? with
   | none => rw [ek] at h; cases h
   | some k => rw [ek] at h; simp only [Option.map_some, Option.some.injEq] at h; exact ⟨k, rfl, h⟩
theorem yn {env : Env} {k : Nat} {d : D} (h : Cd env k = some d) : env[k]? = some (some d) := by
 unfold Cd at h
 cases z : env[k]? with
 | none => rw [z] at h; cases h
 | some o => rw [z] at h; cases o with
  | none => cases h
  | some y => cases h; rfl
theorem Pj {rho : List Addr} {H : Hp} {env : Env} {sg : L2.St} (n : g.Env rho H env sg) (nl : Nat) (fv : List Nat) : g.Env rho H (bo nl fv env) (List.replicate nl none ++ fv.map fun k => (sg[k]?).join) := by
 refine ⟨by simp [bo], fun j d e => ?_⟩
 obtain ⟨hj, k, ek, ed⟩ := pj e
 obtain ⟨v, e1, r⟩ := n.val k d (yn ed)
 refine ⟨v, ?_, r⟩
 rw [List.getElem?_append_right (by simp; omega)]
 simp [ek, e1]
theorem Pk {rho : List Addr} {H : Hp} {env0 env' : Env} {sg : L2.St} {nl : Nat} {fv : List Nat} {env : Env} (h0 : env0 = bo nl fv env) (hl : env'.length = env0.length) (hh : ∀ j, nl ≤ j → env'[j]? = env0[j]?) (n : g.Env rho H env' sg) : g.Env rho H env0 sg := by
 subst h0
 refine ⟨by rw [← hl]; exact n.len, fun j d e => ?_⟩
 obtain ⟨hj, _⟩ := pj e
 exact n.val j d (by rw [hh j hj]; exact e)
end DD
namespace DD
open PySem PySem.Spec L2
open PyProof.Rows hiding St RelV
variable {g : G} {X : Cx} {pos : Pos} {F : Nat}
theorem Yn {elt iter target : Expr} {ifs : List Expr} {N : List Str} {nl : Nat} {fv tgs : List Nat} {one : Bool} {k : Nat} {scope : Scope} {cl : List (Str × Addr)} {it' elt' : E} {ifs' : Es} (hK : X.K = g.K) (hc : X.calm = true) (hkind : scope.kind = .function) (hcell : ∀ y ∈ scope.names, y.2 ≠ .cell)
    (hnames : ∀ y ∈ scope.names, y.2 = .local → scope.names.lookup y.1 = some .local) (hclos : closureFor scope X.env = pure cl) (C : Clos X scope cl) (hN : N.length = nl + fv.length)
    (hfv : ∀ j k, fv[j]? = some k → ∃ x c, N[nl + j]? = some x ∧ X.N[k]? = some x ∧ cl.lookup x = some c ∧ (X.env.scope.names.lookup x = some .cell ∨ X.env.scope.names.lookup x = some .free) ∧ ((relabel scope X.env).names.lookup x = some .cell ∨ (relabel scope X.env).names.lookup x = some .free))
    (htg : ∀ i ∈ tgs, i < nl) (hi : SdI g X target iter k it') (hg : ∀ L s0 H0 fp pn, PG (cxG X N scope cl L s0 H0 fp pn) target (tg g.K tgs one))
    (ht : ∀ L s0 H0 fp pn, PTs (cxG X N scope cl L s0 H0 fp pn) ifs (je (g.with fun _ _ _ => False) ifs')) (he : ∀ L s0 H0 fp pn, Sd (g.with fun _ _ _ => False) (cxG X N scope cl L s0 H0 fp pn) elt elt')
    (hs : ∀ x, foldedSetIterable iter X.env x = pure x := by intro _; rfl)
    {use : Option (Value → Sem Unit)} {Qv : Value → Shared → Prop} {pins : List (Addr × Obj)} {s : Shared} {sg : L2.St} {H : Hp} {Q : VK} (I : L2.Inv X pins sg H s) (q : tE g (.comp k one nl tgs fv it' ifs' elt') sg H Q)
    (hfin : ∀ (ac C : Addr) (H' : Hp) (s4 : Shared), (∃ m, s4.heap.Ns C m) → ck X pins H' C → (∀ h', Heap.SameBut C s4.heap h' → L2.Inv X pins sg H' { s4 with heap := h' }) → Q (.ref ac) H' → compPost (model X.prog X.w) X.A X.xe use Qv (.ref ac) C (.ok .next) s4) :
    wpAny (model X.prog X.w) X.A (comprehension (.ListComp elt [⟨target, iter, ifs, 0⟩] scope pos) scope X.env (firstIterPos [⟨target, iter, ifs, 0⟩] pos) (newList []) (firstAsync [⟨target, iter, ifs, 0⟩]) (firstIter [⟨target, iter, ifs, 0⟩] X.env) use) Qv X.xe s := by
  obtain ⟨rho, st, env, S, n, q⟩ := q
  obtain ⟨wi, hpi, hwi⟩ := hi
  generalize hB : Lj g tgs one (bo nl fv env) ifs' elt' = body
  have q : RQ g ((aa g.tab g.call it' env st).bind fun d st => match Cp k st d with
      | some (xs, p) => (compLoop xs p st.length body xs (st ++ [.lst []])).bind fun _ st' => .ok (.loc st.length) st'
      | none => .bad) (Ak g rho H Q) rho H := by
    rw [← hB]
    simp only [aa] at q
    exact q
  refine wpAny_comprehension_free (use := use) rfl hs hclos hkind hnames ?_
  have hpi := hpi pins s sg H
    (fun J H1 => ∃ r1 st1 xs p, g.Keep rho H r1 H1 ∧ g.Sto r1 st1 H1 ∧ ItJ g J xs p r1 H1 ∧
      RQ g ((compLoop xs p st1.length body xs (st1 ++ [.lst []])).bind fun _ st' => .ok (.loc st1.length) st') (Ak g rho H Q) r1 H1) I ?_
  · refine thn hpi fun v s1 h1 => thn h1 fun itv s2 h2 => ?_
    obtain ⟨it, fp, tn, J, H1, rfl, I2, T, st2, f2, r1, st1, xs, p, k1, S1, hJ, q1⟩ := h2
    obtain ⟨stf, hloop, q1⟩ : ∃ stf, compLoop xs p st1.length body xs (st1 ++ [.lst []]) = .ok () stf ∧ Ak g rho H Q (.loc st1.length) stf := by
      revert q1
      cases e : compLoop xs p st1.length body xs (st1 ++ [.lst []]) with
      | ok u stf => exact fun q => ⟨stf, rfl, q⟩
      | exc c st2 => exact absurd e Lk
      | bad => exact fun q => q.elim
    refine wpAny_newObj_type ?_
    have I3 := I2.lnew (its := []) (ys := []) (t' := s2.toks) .nil (Nat.zero_le _)
    have hn3 := I2.fresh
    generalize hs3 : ({ s2 with heap := s2.heap.push { cls := .type "list", data := .seq ([] : List Value).toArray } } : Shared) = s3
    have I3 : L2.Inv X pins sg (upd H1 s2.heap.objs.size (.lst [])) s3 := by rw [← hs3]; exact I3
    have hsz : s3.heap.objs.size = s2.heap.objs.size + 1 := by rw [← hs3]; exact Heap.size_push _ _
    have up3 : ∀ b o, s2.heap.get? b = some o → s3.heap.get? b = some o := fun b o e => by rw [← hs3]; exact Heap.get?_push_of_some _ e
    have hfp : ∀ b ∈ fp, ck X pins (upd H1 s2.heap.objs.size (.lst [])) b ∧ b < s3.heap.objs.size := fun b hb => by
      obtain ⟨o, ho, _⟩ := T.obj _ _ st2 b hb
      have hlt := Heap.lt_size ho
      refine ⟨⟨?_, (f2 b hb).2⟩, by rw [hsz]; exact Nat.lt_succ_of_lt hlt⟩
      rw [bj (Nat.ne_of_lt hlt)]
      exact (f2 b hb).1
    have k13 : g.Keep r1 H1 (r1 ++ [s2.heap.objs.size]) (upd H1 s2.heap.objs.size (.lst [])) := (S1.laid hn3 (o := .lst []) (c := .lst []) ⟨[], cj, by simp [RepL]⟩).1
    have S3 : g.Sto (r1 ++ [s2.heap.objs.size]) (st1 ++ [.lst []]) (upd H1 s2.heap.objs.size (.lst [])) := (S1.laid hn3 (o := .lst []) (c := .lst []) ⟨[], cj, by simp [RepL]⟩).2
    have acc_at : (r1 ++ [s2.heap.objs.size])[st1.length]? = some s2.heap.objs.size := by rw [← S1.len]; simp
    generalize hH3 : upd H1 s2.heap.objs.size (.lst []) = H3 at *
    generalize hac : s2.heap.objs.size = ac at *
    generalize hr3 : r1 ++ [ac] = r3 at *
    refine wpAny_newFunctionEnv hcell (by intro y hy; simp at hy) (fun h₁ hns₁ hsb₁ => ?_) hkind
    have hk1 : ∀ b o, s3.heap.get? b = some o → h₁.get? b = some o := fun b o e => hsb₁.extBut b o (Nat.ne_of_lt (Heap.lt_size e)) (Heap.get?_push_of_some _ e)
    have J0 := ph (N := N) (nl := nl) (fv := fv) (tk := s3.toks + ([] : List (Str × Value)).length) hkind C hN hfv I3 hfp hns₁ hk1
    have n0 := Pj (n.mono (k1.trans k13)) nl fv
    generalize hsg0 : (List.replicate nl none ++ fv.map fun k => (sg[k]?).join : L2.St) = sg0 at J0 n0
    have tn0 : tn 0 h₁ := T.keep _ _ _ st2 fun b _ o e => hk1 b o (up3 b o e)
    have bfp : ∀ {H' : Hp}, (∀ b ∈ fp, H' b = none) → ∀ b ∈ fp, ck (cxG X N scope cl s3.heap.objs.size s3 H3 fp (X.pn ++ pins)) [] H' b := fun hn b hb => by
      obtain ⟨f, hlt⟩ := hfp b hb
      refine ⟨hn b hb, fun z => ?_, Li I3 f, .inl hb, fun y c h => f.2.2.2.2.1 y c (C.sub y c h), fun p hp => f.2.2.2.2.2 p (by rw [List.append_nil] at hp; exact hp)⟩
      have : s3.heap.objs.size < s3.heap.objs.size := by rw [z] at hlt; exact hlt
      exact Nat.lt_irrefl _ this
    have loop : codeAny (model X.prog X.w) X.A (.compLoop (.ListComp elt [⟨target, iter, ifs, 0⟩] scope pos) 0 (.ref it) (.ref ac) (Lh X scope cl s3.heap.objs.size))
        (compPost (model X.prog X.w) X.A X.xe use Qv (.ref ac) s3.heap.objs.size)
        { s3 with heap := h₁, toks := s3.toks + ([] : List (Str × Value)).length } := by
      refine ym (fun mm s' => ∃ i rho' st' H' sg', L2.Inv (cxG X N scope cl s3.heap.objs.size s3 H3 fp (X.pn ++ pins)) [] sg' H' s' ∧ tn i s'.heap ∧ (∀ b ∈ fp, H' b = none) ∧ g.Keep r3 H3 rho' H' ∧ g.Sto rho' st' H' ∧ g.Env rho' H' (bo nl fv env) sg' ∧ mm = xs.length - i ∧ i ≤ xs.length ∧
        compLoop xs p st1.length body (xs.drop i) st' = .ok () stf) ?_ xs.length ⟨0, r3, _, H3, sg0, J0, tn0, fun b hb => (hfp b hb).1.1, .refl _ _, S3, n0, by simp, Nat.zero_le _, hloop⟩
      rintro mm s' ⟨i, rho', st', H', sg', I', tn', fr', kk, S', n', rfl, hi, hl'⟩
      have hst : stays st' p xs = true := by
        cases z : stays st' p xs with
        | true => rfl
        | false =>
          exfalso
          cases e : xs.drop i with
          | nil => rw [e] at hl'; simp only [compLoop, z] at hl'; cases hl'
          | cons d t => rw [e] at hl'; simp only [compLoop, z] at hl'; cases hl'
      obtain ⟨jstop, jgo⟩ := hJ rho' st' H' (k13.trans kk) S' hst
      by_cases hlt : i < xs.length
      · obtain ⟨hgo, hy⟩ := jgo i xs[i] (List.getElem?_eq_getElem hlt)
        rw [List.drop_eq_getElem_cons hlt] at hl'
        simp only [compLoop, hst, if_true] at hl'
        refine thn (T.item (cxG X N scope cl s3.heap.objs.size s3 H3 fp (X.pn ++ pins)) rfl rfl rfl hc i [] s' sg' H' _ I' (bfp fr') tn' hgo) fun r s4 ⟨u, hr4, h4⟩ => ?_
        subst hr4
        refine thn h4 fun _ s5 ⟨x5, H5, I5, r5, y5, tn5, fr5⟩ => ?_
        obtain ⟨e5, rx5⟩ := hy x5 H5 y5
        have k5 : g.Keep rho' H' rho' H5 := Bd.keep e5 rho'
        have kk := kk.trans k5
        have S' := S'.same e5
        have n' := n'.mono k5
        have I5' := I5.pinned (bfp fr5) (T.obj _ _ tn5)
        obtain ⟨env', es⟩ : ∃ env', store tgs one xs[i] (bo nl fv env) = some env' := by
          cases es : store tgs one xs[i] (bo nl fv env) with
          | some env' => exact ⟨env', rfl⟩
          | none =>
            exfalso
            have : body xs[i] st' = .bad := by rw [← hB]; unfold Lj; rw [es]
            rw [this] at hl'; cases hl'
        have hbody : body xs[i] st' = (Bo g.tab g.call ifs' env' st').bind fun b st => if b then (aa g.tab g.call elt' env' st).bind fun y st => .ok (some y) st else .ok none st := by
          rw [← hB]; unfold Lj; rw [es]
        rw [hbody] at hl'
        obtain ⟨hel, hhi⟩ := Ph es htg
        refine wpAny_mono (hg s3.heap.objs.size s3 H3 fp (X.pn ++ pins) _ s5 sg' H5 x5 u (fun sg6 H6 => H6 = H5 ∧ g.Env rho' H6 env' sg6) I5' r5 (gx (g := g) es rx5 n' fun sg6 n6 => ⟨rfl, n6⟩)) (fun _ s6 h6 => ?_) (fun _ _ z => z.elim)
        obtain ⟨sg6, H6, I6, e6, n6⟩ := h6
        subst e6
        obtain ⟨b, st2, eb, hl'⟩ : ∃ b st2, Bo g.tab g.call ifs' env' st' = .ok b st2 ∧ (match (if b then (aa g.tab g.call elt' env' st2).bind fun y st => .ok (some y) st else .ok none st2 : Res (Option D)) with
            | .ok (some y) st' => (match st'[st1.length]? with
              | some (.lst ys) => if ys.length < sizeLine then compLoop xs p st1.length body (xs.drop (i + 1)) (st'.set st1.length (.lst (ys ++ [y]))) else .bad
              | _ => .bad)
            | .ok none st' => compLoop xs p st1.length body (xs.drop (i + 1)) st'
            | _ => .bad) = Res.ok () stf := by
          cases eb : Bo g.tab g.call ifs' env' st' with
          | ok b st2 => rw [eb] at hl'; exact ⟨b, st2, rfl, hl'⟩
          | exc c st2 => rw [eb] at hl'; cases hl'
          | bad => rw [eb] at hl'; cases hl'
        refine wpAny_mono (ht s3.heap.objs.size s3 H3 fp (X.pn ++ pins) _ s6 sg6 H6 (fun b' H7 => b' = b ∧ ∃ rho7, g.Keep rho' H6 rho7 H7 ∧ g.Sto rho7 st2 H7) I6 ⟨rho', st', env', S', n6, ?_⟩) (fun ok s7 h7 => ?_) (fun _ _ z => z.elim)
        · show RQ (g.with fun _ _ _ => False) (Bo g.tab g.call ifs' env' st') _ rho' H6
          rw [eb]
          exact fun H7 rho7 k7 s7 => ⟨rfl, rho7, k7, s7⟩
        obtain ⟨H7, I7, e7, rho7, k7, S7⟩ := h7
        subst e7
        have n7 : g.Env rho7 H7 env' sg6 := n6.mono k7
        have done : ∀ (rho9 : List Addr) (st9 : Sto) (H9 : Hp) (s9 : Shared), L2.Inv (cxG X N scope cl s3.heap.objs.size s3 H3 fp (X.pn ++ pins)) ([] ++ Gp fp s5.heap) sg6 H9 s9 → g.Keep rho7 H7 rho9 H9 → g.Sto rho9 st9 H9 → compLoop xs p st1.length body (xs.drop (i + 1)) st9 = .ok () stf →
            ∃ m, m < xs.length - i ∧ ∃ i rho' st' H' sg', L2.Inv (cxG X N scope cl s3.heap.objs.size s3 H3 fp (X.pn ++ pins)) [] sg' H' s9 ∧ tn i s9.heap ∧ (∀ b ∈ fp, H' b = none) ∧ g.Keep r3 H3 rho' H' ∧ g.Sto rho' st' H' ∧ g.Env rho' H' (bo nl fv env) sg' ∧ m = xs.length - i ∧ i ≤ xs.length ∧ compLoop xs p st1.length body (xs.drop i) st' = .ok () stf := by
          intro rho9 st9 H9 s9 I9 k9 S9 hl9
          refine ⟨xs.length - (i + 1), by omega, i + 1, rho9, st9, H9, sg6, I9.unpinned, T.keep _ _ _ tn5 fun b hb o e => (I9.pin (b, o) (List.mem_append_right _ (List.mem_append_right _ (gq hb e)))).1, fun b hb => ?_, (kk.trans k7).trans k9, S9, Pk rfl hel hhi (n7.mono k9), rfl, hlt, hl9⟩
          obtain ⟨o, e, d⟩ := T.obj _ _ tn5 b hb
          exact (I9.pin (b, o) (List.mem_append_right _ (List.mem_append_right _ (gq hb e)))).2.1
        cases ok with
        | false =>
          rw [if_neg Bool.false_ne_true]
          simp only [Bool.false_eq_true, if_false] at hl'
          exact done rho7 st2 H7 s7 I7 (.refl _ _) S7 hl'
        | true =>
          rw [if_pos rfl]
          simp only [if_true] at hl'
          obtain ⟨y, st4, ee, hl'⟩ : ∃ y st4, aa g.tab g.call elt' env' st2 = .ok y st4 ∧ (match st4[st1.length]? with
              | some (.lst ys) => if ys.length < sizeLine then compLoop xs p st1.length body (xs.drop (i + 1)) (st4.set st1.length (.lst (ys ++ [y]))) else .bad
              | _ => .bad) = Res.ok () stf := by
            cases ee : aa g.tab g.call elt' env' st2 with
            | ok y st4 => rw [ee] at hl'; exact ⟨y, st4, rfl, hl'⟩
            | exc c st4 => rw [ee] at hl'; cases hl'
            | bad => rw [ee] at hl'; cases hl'
          obtain ⟨ys, ey, hys, hl'⟩ : ∃ ys, st4[st1.length]? = some (.lst ys) ∧ ys.length < sizeLine ∧ compLoop xs p st1.length body (xs.drop (i + 1)) (st4.set st1.length (.lst (ys ++ [y]))) = .ok () stf := by
            split at hl'
            · rename_i ys ey
              split at hl'
              · rename_i hys; exact ⟨ys, ey, hys, hl'⟩
              · cases hl'
            · cases hl'
          refine wpAny_mono (he s3.heap.objs.size s3 H3 fp (X.pn ++ pins) _ s7 sg6 H7 (fun w H8 => ∃ rho8, g.Keep rho7 H7 rho8 H8 ∧ g.Sto rho8 st4 H8 ∧ g.Rep rho8 H8 y w) I7 ⟨rho7, st2, env', S7, n7, ?_⟩) (fun yv s8 h8 => ?_) (fun _ _ z => z.elim)
          · show RQ (g.with fun _ _ _ => False) (aa g.tab g.call elt' env' st2) _ rho7 H7
            rw [ee]
            exact fun w H8 rho8 k8 s8 r8 => ⟨rho8, k8, s8, r8⟩
          obtain ⟨w, H8, I8, rw8, rho8, k8, S8, rp8⟩ := h8
          obtain ⟨a8, us, hr8, hH8, rl8⟩ := fc S8 ey
          rw [k8.at (k7.at (kk.at acc_at))] at hr8; cases hr8
          have hrep : g.RepL rho8 H8 (ys ++ [y]) (us ++ [w]) := rl8.append (by simp only [RepL]; exact ⟨w, [], rfl, rp8, rfl⟩)
          obtain ⟨k9, S9⟩ := S8.wrote (k8.at (k7.at (kk.at acc_at))) ey hH8 hrep
          refine wpAny_mono (Nr (X := cxG X N scope cl s3.heap.objs.size s3 H3 fp (X.pn ++ pins)) _ s8 _ H8 (.ref ac) [w] (.ref ac) [yv] (fun _ H9 => H9 = upd H8 ac (.lst (us ++ [w]))) I8 rfl (.cons rw8 .nil) ⟨ac, us, w, rfl, rfl, hH8, by rw [← rl8.length]; exact hys, rfl⟩) (fun _ s9 h9 => ?_) (fun _ _ z => z.elim)
          obtain ⟨_, H9, I9, _, e9⟩ := h9
          subst e9
          exact done rho8 _ _ s9 I9 (k8.trans k9) S9 hl'
      · have ei : i = xs.length := by omega
        subst ei
        refine thn (T.done (cxG X N scope cl s3.heap.objs.size s3 H3 fp (X.pn ++ pins)) rfl rfl rfl hc xs.length [] s' sg' H' _ I' (bfp fr') tn' jstop) fun r s4 ⟨hr4, I4⟩ => ?_
        subst hr4
        rw [List.drop_eq_nil_of_le (Nat.le_refl _)] at hl'
        simp only [compLoop, hst, if_true] at hl'
        cases hl'
        obtain ⟨m4, hn4, _⟩ := I4.loc
        refine hfin ac s3.heap.objs.size H' s4 ⟨m4, hn4⟩ (I3.fpOk (Nat.le_refl _) I4.free) (fun h' sb => ?_) (q1 (.ref ac) H' rho' ((k1.trans k13).trans kk) S' (bb.mpr ⟨ac, kk.at acc_at, rfl⟩))
        have u4 : Un (frs X.stack) fp H3 H' s3.heap s4.heap := I4.base
        have hL : ∀ b o, s3.heap.get? b = some o → b ≠ s3.heap.objs.size := fun b o e => Nat.ne_of_lt (Heap.lt_size e)
        have fL : H' s3.heap.objs.size = none := I4.free
        refine I3.call' (s' := { s4 with heap := h' }) (ch := fp) I4.os ⟨fun b o e n hb hx => (sb.2 b (hL b o e)).trans (u4.keep b o e n hb hx), fun b o e n hb hx => ?_, u4.free, fun b o e hx => ?_, u4.tups, u4.frzs, u4.tbls⟩ (fun b o e => ?_) I4.bare fun b hb => ?_
        · obtain ⟨sl, e1⟩ := u4.slot b o e n hb hx
          exact ⟨sl, (sb.2 b (hL b o e)).trans e1⟩
        · obtain ⟨o', e1⟩ := u4.there b o e hx
          exact ⟨o', (sb.2 b (hL b o e)).trans e1⟩
        · refine (I4.hok b o e).stay (fun c u hc' g' => (sb.2 c ?_).trans g') (fun _ h => h) fun _ _ h => h
          intro z
          rcases hc' with rfl | hc'
          · rw [z, fL] at e; cases e
          · rw [z, fL] at hc'; cases hc'
        · obtain ⟨f, _⟩ := hfp b hb
          exact ⟨f.2.2.2.1, f.2.1, f.2.2.2.2.1, f.2.2.2.2.2⟩
    exact codeAny_compStart_list loop (T.self _ 0 _ _ _ tn0 loop)
  · refine hwi rho st env sg H _ S n ?_
    revert q
    cases aa g.tab g.call it' env st with
    | bad => exact fun q => q
    | exc c st1 => exact fun q => q
    | ok d st1 =>
      simp only [bc]
      intro q
      cases ei : Cp k st1 d with
      | none => rw [ei] at q; exact q.elim
      | some xp =>
        obtain ⟨xs, p⟩ := xp
        rw [ei] at q
        exact ⟨xs, p, ei, fun H1 r1 J k1 s1 hJ => ⟨r1, st1, xs, p, k1, s1, hJ, RQ.mono k1 q fun _ _ z => z⟩⟩
theorem gy {elt iter target : Expr} {ifs : List Expr} {N : List Str} {nl : Nat} {fv tgs : List Nat} {one : Bool} {k : Nat} {scope : Scope} {cl : List (Str × Addr)} {it' elt' : E} {ifs' : Es} (hK : X.K = g.K) (hc : X.calm = true) (hkind : scope.kind = .function) (hcell : ∀ y ∈ scope.names, y.2 ≠ .cell)
    (hnames : ∀ y ∈ scope.names, y.2 = .local → scope.names.lookup y.1 = some .local) (hclos : closureFor scope X.env = pure cl) (C : Clos X scope cl) (hN : N.length = nl + fv.length)
    (hfv : ∀ j k, fv[j]? = some k → ∃ x c, N[nl + j]? = some x ∧ X.N[k]? = some x ∧ cl.lookup x = some c ∧ (X.env.scope.names.lookup x = some .cell ∨ X.env.scope.names.lookup x = some .free) ∧ ((relabel scope X.env).names.lookup x = some .cell ∨ (relabel scope X.env).names.lookup x = some .free))
    (htg : ∀ i ∈ tgs, i < nl) (hi : SdI g X target iter k it') (hg : ∀ L s0 H0 fp pn, PG (cxG X N scope cl L s0 H0 fp pn) target (tg g.K tgs one))
    (ht : ∀ L s0 H0 fp pn, PTs (cxG X N scope cl L s0 H0 fp pn) ifs (je (g.with fun _ _ _ => False) ifs')) (he : ∀ L s0 H0 fp pn, Sd (g.with fun _ _ _ => False) (cxG X N scope cl L s0 H0 fp pn) elt elt')
    (hs : ∀ x, foldedSetIterable iter X.env x = pure x := by intro _; rfl) :
    Sd g X (.ListComp elt [⟨target, iter, ifs, 0⟩] scope pos) (.comp k one nl tgs fv it' ifs' elt') := by
  intro pins s sg H Q I q
  rw [eval_ListComp]
  exact Yn hK hc hkind hcell hnames hclos C hN hfv htg hi hg ht he hs I q fun ac C H' s4 ⟨m, hn⟩ _ hI hq => ⟨m, hn, fun h' sb => ⟨.ref ac, H', hI h' sb, rfl, hq⟩⟩
end DD
namespace DD
open PySem PySem.Spec L2
open PyProof.Rows hiding St RelV
variable {g : G} {X : Cx} {pos : Pos} {F : Nat}
def Its (z : Str) : It := ⟨fun i _ => i < z.cps.size, fun i H x H' => H' = H ∧ ∃ c, z.cps[i]? = some c ∧ x = .str ⟨#[c]⟩, fun i _ => z.cps.size ≤ i⟩
theorem yo {P : Program} {w : World} {K : PySem.W.Frag} {tg : Expr} (it : Addr) (z : Str) (t : Tok) (nm : String) (hnm : ["enumerate", "zip", "dict_itemiterator", "dict_reverseitemiterator", "odict_iterator", "itertools.zip_longest", "itertools.pairwise"].contains nm = false)
    (W : ∀ A' : Around, A'.handled = none → Walks P w A' it [it] [it] z.cps.size (SignAt z) (fun i h => h.IsStrIter it nm z t i))
    (hself : ∀ (A : Around) (i : Nat) (s : Shared) (Q : Value → Shared → Prop) (E : Value → Shared → Prop), s.heap.IsStrIter it nm z t i → Q (.ref it) s → wpAny (model P w) A (pyIter (.ref it)) Q E s) : Turn P w K tg (Its z) [it] it (fun i h => i ≤ z.cps.size ∧ h.IsStrIter it nm z t i) where
  mem := by simp
  obj := fun i h st b hb => by
    have e : b = it := by simpa using hb
    subst e
    obtain ⟨_, o, e, c, d⟩ := st
    exact ⟨o, e, fun v z => by rw [d] at z; cases z⟩
  keep := fun i h h' st k => let ⟨hi, o, ho, r⟩ := st; ⟨hi, o, k it (by simp) o ho, r⟩
  item := by
    intro X hP hw hK hc i pins s sg H E I hf st hg
    subst hP hw hK
    have hg : i < z.cps.size := hg
    obtain ⟨f0, f1, f2, f3, f4, f5⟩ := hf it (by simp)
    refine (W X.A (I.ok.hd hc)).item i s _ _ hg st.2 fun v h' tk hv st' kk => ?_
    obtain ⟨c, u, hcv, rfl⟩ := hv
    have I1 : Inv X pins sg H { s with heap := h', toks := tk } := I.turned (fun b o hb e => kk b o (by simpa using hb) e) f0 f1 f3 f4 f5
    obtain ⟨o, e, cc, d⟩ := id st'
    exact ⟨_, rfl, ip (s := { s with heap := h', toks := tk }) (n := nm) e cc d hnm ⟨.str ⟨#[c]⟩, H, I1, ⟨u, rfl⟩, ⟨rfl, c, hcv, rfl⟩, ⟨hg, st'⟩, fun b hb => (hf b hb).1⟩⟩
  done := by
    intro X hP hw hK hc i pins s sg H E I hf st hg
    subst hP hw hK
    have hg : z.cps.size ≤ i := hg
    have hi : i = z.cps.size := Nat.le_antisymm st.1 hg
    subst hi
    obtain ⟨f0, f1, f2, f3, f4, f5⟩ := hf it (by simp)
    exact (W X.A (I.ok.hd hc)).done s _ _ st.2 fun h' tk kk => ⟨rfl, I.turned (fun b o hb e => kk b o (by simpa using hb) e) f0 f1 f3 f4 f5⟩
  self := fun A i s Q E st h => hself A i s Q E st.2 h
def Yo (tl : TE) : TI := fun sg H R => tl sg H fun x H1 => ∃ z, x = .str z ∧ R (Its z) H1
theorem yp {tg l : Expr} {tl : TE} (hl : PE X l tl) : PI X tg l (Yo tl) := by
  intro pins s sg H R I h
  refine thn (hl pins s sg H _ I h) fun v s1 ⟨x, H1, I1, r1, q1⟩ => ?_
  obtain ⟨z, rfl, q⟩ := q1
  obtain ⟨t, rfl⟩ := (show ∃ t, v = Value.str z t from r1)
  have fin : ∀ (o : Obj) (nm : String), o.cls = .type nm → o.data = .fields #[.str z t, .int 0 0] → ["enumerate", "zip", "dict_itemiterator", "dict_reverseitemiterator", "odict_iterator", "itertools.zip_longest", "itertools.pairwise"].contains nm = false → o.isFreed = false →
      (∀ A' : Around, A'.handled = none → Walks X.prog X.w A' s1.heap.objs.size [s1.heap.objs.size] [s1.heap.objs.size] z.cps.size (SignAt z) (fun i h => h.IsStrIter s1.heap.objs.size nm z t i)) →
      (∀ (A : Around) (i : Nat) (s : Shared) (Q : Value → Shared → Prop) (E : Value → Shared → Prop), s.heap.IsStrIter s1.heap.objs.size nm z t i → Q (.ref s1.heap.objs.size) s → wpAny (model X.prog X.w) A (pyIter (.ref s1.heap.objs.size)) Q E s) →
      PIE X pins sg tg R (.ref s1.heap.objs.size) { s1 with heap := s1.heap.push o } := by
    intro o nm hc hd hnm hfr W hself
    refine ⟨s1.heap.objs.size, [s1.heap.objs.size], _, Its z, H1, rfl, I1.kept (t' := s1.toks) fun b o e => Heap.get?_push_of_some _ e, yo _ z t nm hnm W hself, ⟨Nat.zero_le _, o, Heap.get?_push_size _ hfr, hc, hd⟩, fun b hb => ?_, q⟩
    have e : b = s1.heap.objs.size := by simpa using hb
    subst e
    exact I1.fpOk (Nat.le_refl _) (I1.hok.fresh (Nat.le_refl _))
  cases ha : z.cps.all (· < 128)
  · exact wpAny_pyIter_wide ha (fin _ "str_iterator" rfl rfl (by decide) rfl (fun A' hA => Walks.strWide hA _ z t) fun A i s Q E st h => wpAny_pyIter_striter_wide st h)
  · exact wpAny_pyIter_ascii ha (fin _ "str_ascii_iterator" rfl rfl (by decide) rfl (fun A' hA => Walks.strAscii hA _ z t) fun A i s Q E st h => wpAny_pyIter_striter_ascii st h)
theorem Yp {target iter : Expr} {it' : E} (h : Sd g X iter it') : SdI g X target iter 3 it' := by
 refine ⟨_, yp h, fun rho st env sg H R s n q => ?_⟩
 refine ⟨rho, st, env, s, n, ?_⟩
 revert q
 cases aa g.tab g.call it' env st with
 | bad => exact fun q => q
 | exc c st1 => exact fun q => q
 | ok d st1 =>
  rintro ⟨xs, p, e, q⟩ v H1 r1 k1 s1 rv
  cases d with
  | str z =>
   simp only [Cp] at e
   split at e
   · cases e
     refine ⟨z, Bk.mp rv, q H1 r1 _ k1 s1 ?_⟩
     intro rho st H kk s hst
     refine ⟨by show z.cps.size ≤ _; simp, fun i d hd => ?_⟩
     rw [List.getElem?_map] at hd
     cases ec : z.cps.toList[i]? with
     | none => rw [ec] at hd; cases hd
     | some c =>
      rw [ec] at hd; cases hd
      have hi : i < z.cps.size := by simpa using (List.getElem?_eq_some_iff.mp ec).1
      refine ⟨hi, fun x H' y => lj y.1 ?_⟩
      obtain ⟨_, c2, e2, rfl⟩ := y
      have : c2 = c := by
       have e3 : z.cps.toList[i]? = some c2 := by simpa using e2
       rw [ec] at e3; cases e3; rfl
      rw [this]
      exact Bk.mpr rfl
   · cases e
  | _ => cases e
end DD
namespace DD
open PySem PySem.Spec L2
open PyProof.Rows hiding St
variable {g : G} {X : Cx} {a b c : Expr} {a' b' c' : E} {pos : Pos} {rest es : List Expr} {es' : Es} {F : Nat}
end DD
namespace DD
open PySem PySem.Spec L2
variable {g : G} {X : Cx} {pos apos cpos : Pos} {F : Nat} {a b c : Expr} {a' b' c' : E}
theorem Je {rho : List Addr} {H : Hp} : ∀ {kvs : List (D × D)} {ws : List (Key × V)}, av g.K rho H kvs ws → kvs.length = ws.length
 | [], ws, h => by simp only [av] at h; subst h; rfl
 | (x, d) :: r, ws, h => by
  simp only [av] at h
  obtain ⟨k, v, t, rfl, _, _, q⟩ := h
  simp [Je q]
theorem Pl {rho : List Addr} {H : Hp} {a : D} {k : Key} (ha : kD a = some k) : ∀ {kvs : List (D × D)} {ws : List (Key × V)}, av g.K rho H kvs ws → (kvs.any fun p => decide (p.1 = a)) = ws.any fun p => decide (p.1 = k)
 | [], ws, h => by simp only [av] at h; subst h; rfl
 | (x, d) :: r, ws, h => by
  simp only [av] at h
  obtain ⟨k', v, t, rfl, hk, _, q⟩ := h
  simp only [List.any_cons, Pl ha q]
  congr 1
  by_cases e : x = a
  · subst e; rw [ha] at hk; cases hk; simp
  · have : k' ≠ k := fun z => e (Jb (by rw [hk, z]) ha)
    simp [e, this]
theorem Pm {rho : List Addr} {H : Hp} {a y : D} {k : Key} {v : V} (ha : kD a = some k) (ry : g.Rep rho H y v) : ∀ {kvs : List (D × D)} {ws : List (Key × V)}, av g.K rho H kvs ws → av g.K rho H (kvs.map fun p => if p.1 = a then (p.1, y) else p) (ws.map fun p => if p.1 = k then (p.1, v) else p)
 | [], ws, h => by simp only [av] at h; subst h; simp [av]
 | (x, d) :: r, ws, h => by
  simp only [av] at h
  obtain ⟨k', v', t, rfl, hk, rd, q⟩ := h
  have ih := Pm ha ry q
  by_cases e : x = a
  · subst e; rw [ha] at hk; cases hk
    simp only [List.map_cons, if_true, av]
    exact ⟨k, v, _, rfl, ha, ry, ih⟩
  · have ne : k' ≠ k := fun z => e (Jb (by rw [hk, z]) ha)
    simp only [List.map_cons, if_neg e, if_neg ne, av]
    exact ⟨k', v', _, rfl, hk, rd, ih⟩
theorem Pn {rho : List Addr} {H : Hp} {a y : D} {k : Key} {v : V} (ha : kD a = some k) (ry : g.Rep rho H y v) : ∀ {kvs : List (D × D)} {ws : List (Key × V)}, av g.K rho H kvs ws → av g.K rho H (kvs ++ [(a, y)]) (ws ++ [(k, v)])
 | [], ws, h => by simp only [av] at h; subst h; simp only [List.nil_append, av]; exact ⟨k, v, [], rfl, ha, ry, rfl⟩
 | (x, d) :: r, ws, h => by
  simp only [av] at h
  obtain ⟨k', v', t, rfl, hk, rd, q⟩ := h
  simp only [List.cons_append, av]
  exact ⟨k', v', _, rfl, hk, rd, Pn ha ry q⟩
theorem Po {rho : List Addr} {H : Hp} {a y : D} {k : Key} {v : V} (ha : kD a = some k) (ry : g.Rep rho H y v) {kvs : List (D × D)} {ws : List (Key × V)} (h : av g.K rho H kvs ws) : av g.K rho H (bu kvs a y) (putK ws k v) := by
 unfold bu putK
 rw [Pl ha h]
 split
 · exact Pm ha ry h
 · exact Pn ha ry h
theorem Pp {rho : List Addr} {H : Hp} : ∀ {more : List (D × D)} {ms : List (Key × V)} {kvs : List (D × D)} {ws : List (Key × V)}, av g.K rho H more ms → av g.K rho H kvs ws → av g.K rho H (Fs kvs more) (Gs ws ms)
 | [], ms, kvs, ws, h, q => by simp only [av] at h; subst h; exact q
 | (x, d) :: r, ms, kvs, ws, h, q => by
  simp only [av] at h
  obtain ⟨k, v, t, rfl, hk, rd, h2⟩ := h
  show av g.K rho H (Fs (bu kvs x d) r) (Gs (putK ws k v) t)
  exact Pp h2 (Po hk rd q)
theorem pq {rho : List Addr} {st : Sto} {H : Hp} {n : Nat} {p : Addr} {kvs kvs2 : List (D × D)} {ws ws2 : List (Key × V)} (s : g.Sto rho st H) (hr : rho[n]? = some p) (he : st[n]? = some (.dct kvs)) (hH : H p = some (.dK ws)) (h2 : av g.K rho H kvs2 ws2) :
    g.Keep rho H rho (upd H p (.dK ws2)) ∧ g.Sto rho (st.set n (.dct kvs2)) (upd H p (.dK ws2)) := s.wroteC hr he rfl hH ⟨fun _ => nofun, fun _ _ => nofun⟩ fun H3 eH kk => ⟨ws2, eH, h2.mono kk⟩
theorem yq {pins : List (Addr × Obj)} {sg : L2.St} {H : Hp} {s : Shared} {A : Around} {E : Value → Shared → Prop} {p : Addr} {kvs : List (Key × V)} {k : Key} {v : V} {u r : Value} {Q : Unit → Shared → Prop} (I : Inv X pins sg H s) (e : H p = some (.dK kvs)) (l : kvs.length < sizeLine) (ry : RelV (kV k) u) (rv : RelV v r)
    (h : ∀ s', Inv X pins sg (upd H p (.dK (putK kvs k v))) s' → Q () s') : wpAny (model X.prog X.w) A (dictSet p u r) Q E s := by
  obtain ⟨z, hd, vs, rel, dd⟩ := kq I.hok e
  have hz : vs.length ≤ sizeLine := by rw [← rel.length]; exact z
  have hl : (putK kvs k v).length ≤ sizeLine := by have := Nv kvs k v; omega
  refine wpAny_dictSet_pairs (hsz := hz) (fm ry) dd fun h' dd' hs => h _ ?_
  have he : ∃ q, h'.get? p = some q := let ⟨q, _, _, hq, _⟩ := dd'; ⟨q, hq⟩
  exact ny I (by rw [e]; exact True.intro) hs he (Ny hl hd (rel.put k rv) dd')
theorem Pq {m : Mt} {st : Sto} {d : D} (hm : m = .get ∨ m = .upd) (h : rdy m st d = true) : ∃ n kvs, d = .loc n ∧ Ba st n = some kvs := by
 cases d with
 | loc n =>
  have h : (Ba st n).isSome = true := by rcases hm with rfl | rfl <;> exact h
  cases e : Ba st n with
  | none => rw [e] at h; cases h
  | some kvs => exact ⟨n, kvs, rfl, e⟩
 | _ => rcases hm with rfl | rfl <;> cases h
theorem Pt {o e : Expr} {o' e' : E} (hu : X.A.units + 64 < cLine) (ho : Sd g X o o') (he : Sd g X e e') (m : M1 X o "get" apos e cpos) : Sd g X (.Call (.Attribute o "get" apos) [e] [] cpos) (.mt .get o' (.cons e' .nil)) :=
 Ay (Wt (by omega) ho he m) fun sg H Q q => by
  obtain ⟨rho, st, env, s, n, q⟩ := q
  simp only [aa, As, bc, bind_assoc] at q
  refine step s n q fun d st1 x H1 r1 k1 s1 n1 rp q1 => ?_
  split at q1
  · rename_i hl
    obtain ⟨j, kvs, rfl, ed⟩ := Pq (.inl rfl) hl
    obtain ⟨p, ws, hr, _, hH, kv⟩ := fe s1 ed
    obtain ⟨p2, hr2, rfl⟩ := bb.mp rp
    rw [hr] at hr2; cases hr2
    refine ⟨p, rfl, .inl ⟨ws, .inl hH⟩, step s1 n1 q1 fun y st2 w H2 r2 k2 s2 n2 ry q2 => ?_⟩
    simp only [mtD] at q2
    split at q2
    · rename_i kvs2 ed2
      split at q2
      · rename_i hk
        obtain ⟨k, ek⟩ := Ht hk
        obtain ⟨p3, ws2, hr3, _, hH2, kv2⟩ := fe s2 ed2
        rw [k2.at hr] at hr3; cases hr3
        cases Hu ry ek
        refine ⟨bw ws2 k, Ck.k hH2, ?_⟩
        obtain ⟨l1, l2⟩ := jc ek kv2
        have q2 : Ak g rho H Q ((ay kvs2 y).getD .non) st2 := q2
        cases z : ay kvs2 y with
        | none => rw [z] at q2; rw [l2 z]; exact q2 _ H2 r2 (k1.trans k2) s2 (Cr.mpr rfl)
        | some d => rw [z] at q2; obtain ⟨v, e1, rv⟩ := l1 d z; rw [e1]; exact q2 _ H2 r2 (k1.trans k2) s2 rv
      · exact q2.elim
    · exact q2.elim
  · exact q1.elim
def Yq : V → List V → Hp → VK → Prop := fun x vs H Q => ∃ p o kvs more, x = .ref p ∧ vs = [.ref o] ∧ p ≠ o ∧ H p = some (.dK kvs) ∧ H o = some (.dK more) ∧ kvs.length + more.length ≤ sizeLine ∧ Q .non (upd H p (.dK (Gs kvs more)))
theorem yr : MtR X "dict.update" Yq := by
 intro pins s sg H x vs v us Q I rx rv h
 obtain ⟨p, o, kvs, more, rfl, rfl, hne, hp, ho, hz, q⟩ := h
 cases rx
 obtain ⟨u, rfl, ru⟩ := rv.one
 cases ru
 obtain ⟨z, hd, ws, rel, dd⟩ := kq I.hok hp
 obtain ⟨z2, hd2, ms, rel2, dd2⟩ := kq I.hok ho
 refine call_meetsIn PySem.F.slot_dict_update dd.typeIs PySem.F.entry_dict_update (PySem.F.args_dict_update_2 _ _) (meets_dict_update (Ca X.prog X.w) p o hne hd2) ⟨ws, ms, dd, dd2, by rw [← rel.length, ← rel2.length]; exact hz, fun h' dd' _ hs => ⟨.non, _, ?_, rfl, q⟩⟩
 have he : ∃ q, h'.get? p = some q := let ⟨q, _, _, hq, _⟩ := dd'; ⟨q, hq⟩
 exact ny (t' := s.toks) I (by rw [hp]; exact True.intro) hs he (Ny (Nat.le_trans (nz more kvs) hz) hd (rel2.merge rel) dd')
theorem pw {o v : Expr} {o' v' : E} (ho : Sd g X o o') (hv : Sd g X v v') (hbase : attributeBase o "update" X.env (eval o X.env) = eval o X.env := by rfl)
    (hfew : ((backTo cpos (starEach [v] X.env)).all (fun x => !x.1) && (backToKw cpos (keywordEach [] X.env)).all (fun x => x.1.isSome) && decide ([v].length + ([] : List Keyword).length + (if ([] : List Keyword).isEmpty then 0 else 1) < 30)) = true := by rfl)
    (hline : (apos.endLine == cpos.line) = true := by rfl) (hs : starEach [v] X.env = (false, eval v X.env) :: starEach [] X.env := by rfl) : Sd g X (.Call (.Attribute o "update" apos) [v] [] cpos) (.mt .upd o' (.cons v' .nil)) :=
  Ay (nr PySem.F.plainAttrs_dict PySem.F.slot_dict_update PySem.F.type_dict_update yr ho (Aa hv Ad hs) hbase hfew hline hs rfl) fun sg H Q q => by
    obtain ⟨rho, st, env, s, n, q⟩ := q
    simp only [aa] at q
    refine step s n q fun d st1 x H1 r1 k1 s1 n1 rp q1 => ?_
    split at q1
    · rename_i hl
      obtain ⟨j, kvs, rfl, ed⟩ := Pq (.inr rfl) hl
      obtain ⟨p, ws, hr, _, hH, kv⟩ := fe s1 ed
      obtain ⟨p2, hr2, rfl⟩ := bb.mp rp
      rw [hr] at hr2; cases hr2
      refine ⟨.inr (.inr (.inl ⟨rfl, .inl ⟨ws, hH⟩⟩)), dq s1 n1 q1 fun ds st2 vs H2 r2 k2 s2 n2 rps q2 => ?_⟩
      match ds, q2 with
      | [.loc m], q2 =>
        obtain ⟨w, rfl, rw1⟩ := Fu rps
        simp only [mtD] at q2
        split at q2
        · rename_i kvs2 more e1 e2
          split at q2
          · rename_i hz
            obtain ⟨p3, ws2, hr3, hc3, hH2, kv2⟩ := fe s2 e1
            rw [k2.at hr] at hr3; cases hr3
            obtain ⟨p4, ms, hr4, hc4, hH4, kv4⟩ := fe s2 e2
            obtain ⟨p5, hr5, rfl⟩ := bb.mp rw1
            rw [hr4] at hr5; cases hr5
            have hne : p ≠ p4 := fun z => hz.1 (s2.nd j m p _ _ (k2.at hr) (by rw [z]; exact hr4) hc3 hc4 rfl rfl)
            obtain ⟨k3, s3⟩ := pq s2 (k2.at hr) hc3 hH2 (Pp kv4 kv2)
            exact ⟨p, p4, ws2, ms, rfl, rfl, hne, hH2, hH4, by rw [← Je kv2, ← Je kv4]; exact hz.2, (show Ak g rho H Q .non _ from q2) _ _ r2 ((k1.trans k2).trans k3) s3 (Cr.mpr rfl)⟩
          · exact q2.elim
        · exact q2.elim
      | [], q2 => exact q2.elim
      | [.non], q2 => exact q2.elim
      | [.bl _], q2 => exact q2.elim
      | [.int _], q2 => exact q2.elim
      | [.str _], q2 => exact q2.elim
      | [.tup _], q2 => exact q2.elim
      | _ :: _ :: _, q2 => exact (show False by revert q2; rename_i a b c; cases a <;> exact fun q => q.elim).elim
    · exact q1.elim
end DD
namespace DD
open PySem PySem.Spec L2
open PyProof.Rows hiding St RelV
variable {g : G} {X : Cx} {pos : Pos} {F : Nat}
def Ll (g : G) (tg : List Nat) (one : Bool) (env0 : Env) (ifs : Es) (kx vx : E) (d : D) (st : Sto) : Res (Option (D × D)) := match store tg one d env0 with
 | some env' => (Bo g.tab g.call ifs env' st).bind fun b st => if b then (aa g.tab g.call kx env' st).bind fun k st => (aa g.tab g.call vx env' st).bind fun y st => .ok (some (k, y)) st else .ok none st
 | none => .bad
theorem Lm {all : List D} {p : Option Nat} {n0 : Nat} {body : D → Sto → Res (Option (D × D))} {c : Nat} {st' : Sto} : ∀ {xs : List D} {st : Sto}, Bi all p n0 body xs st ≠ .exc c st'
 | [], st => by
  simp only [Bi]
  split <;> (intro h; cases h)
 | d :: r, st => by
  simp only [Bi]
  split
  · split
    · split
      · split
        · exact Lm
        · intro h; cases h
      · intro h; cases h
    · exact Lm
    · intro h; cases h
  · intro h; cases h
theorem Yr {prog : Program} {w : World} {A : Around} {R : Result → Shared → Prop} {s : Shared} {kx vx target iter : Expr} {ifs : List Expr} {scope : Scope} {it : Value} {dd : Addr} {env : PySem.Env} (I : Nat → Shared → Prop)
    (turn : ∀ n s, I n s → wpAny (model prog w) A (pyNext it) (fun r s₁ => match r with
      | none => R (.ok .next) s₁
      | some v => wpAny (model prog w) A (letOwnedTupleGo target it v) (fun _ s₁ => wpAny (model prog w) A (assign target env v) (fun _ s₂ =>
          wpAny (model prog w) A (forIn ifs true fun c r => if r = true then do let ok ← isTrue c env (eval c env); pure (ForInStep.yield ok) else pure (ForInStep.yield r)) (fun ok s₃ =>
            if ok = true then wpAny (model prog w) A (eval kx env) (fun kv s₄ => wpAny (model prog w) A (eval vx env) (fun vv s₅ =>
              wpAny (model prog w) A (dictSet dd kv vv) (fun _ s₆ => ∃ m, m < n ∧ I m s₆) (notedBy (model prog w) A env fun e s' => R (.error e) s') s₅) (notedBy (model prog w) A env fun e s' => R (.error e) s') s₄) (notedBy (model prog w) A env fun e s' => R (.error e) s') s₃
            else ∃ m, m < n ∧ I m s₃) (notedBy (model prog w) A env fun e s' => R (.error e) s') s₂) (notedBy (model prog w) A env fun e s' => R (.error e) s') s₁) (notedBy (model prog w) A env fun e s' => R (.error e) s') s₁) (notedBy (model prog w) A env fun e s' => R (.error e) s') s)
    (n : Nat) (h : I n s) : codeAny (model prog w) A (.compLoop (.DictComp kx vx [⟨target, iter, ifs, 0⟩] scope pos) 0 it (.ref dd) env) R s := by
  refine codeAny_loop rfl I (fun n s hI => ?_) n h
  show wpAny _ A ((compTurn (.DictComp kx vx [⟨target, iter, ifs, 0⟩] scope pos) 0 it (.ref dd) env).onRaise (fun x => do noteFrame x env; theTreesLotGoes x)) _ _ s
  refine wpAny_noted ?_
  rw [compTurn_dict]
  refine wpAny_bind (wpAny_standAt (wpAny_bind (wpAny_mono (turn n s hI) (fun r s₁ h₁ => ?_) fun _ _ h' => h')))
  cases r with
  | none => exact wpAny_pure h₁
  | some v =>
    refine wpAny_bind (wpAny_mono h₁ (fun _ s₁ h₁ => ?_) fun _ _ h' => h')
    refine wpAny_bind (wpAny_mono h₁ (fun _ s₂ h₂ => wpAny_bind (wpAny_mono h₂ (fun ok s₃ h₃ => ?_) fun _ _ h' => h')) fun _ _ h' => h')
    cases ok with
    | false => exact wpAny_pure ⟨rfl, h₃⟩
    | true =>
      exact wpAny_bind (wpAny_bind (wpAny_mono h₃ (fun kv s₄ h₄ => wpAny_bind (wpAny_holding (wpAny_mono h₄ (fun vv s₅ h₅ => wpAny_bind (wpAny_standAt (wpAny_holding (wpAny_mono h₅ (fun _ s₆ h₆ => wpAny_pure ⟨rfl, h₆⟩) fun _ _ h' => h')))) fun _ _ h' => h'))) fun _ _ h' => h'))
theorem Hx {kx vx iter target : Expr} {ifs : List Expr} {N : List Str} {nl : Nat} {fv tgs : List Nat} {one : Bool} {k : Nat} {scope : Scope} {cl : List (Str × Addr)} {it' kx' vx' : E} {ifs' : Es} (hK : X.K = g.K) (hc : X.calm = true) (hkind : scope.kind = .function) (hcell : ∀ y ∈ scope.names, y.2 ≠ .cell)
    (hnames : ∀ y ∈ scope.names, y.2 = .local → scope.names.lookup y.1 = some .local) (hclos : closureFor scope X.env = pure cl) (C : Clos X scope cl) (hN : N.length = nl + fv.length)
    (hfv : ∀ j k, fv[j]? = some k → ∃ x c, N[nl + j]? = some x ∧ X.N[k]? = some x ∧ cl.lookup x = some c ∧ (X.env.scope.names.lookup x = some .cell ∨ X.env.scope.names.lookup x = some .free) ∧ ((relabel scope X.env).names.lookup x = some .cell ∨ (relabel scope X.env).names.lookup x = some .free))
    (htg : ∀ i ∈ tgs, i < nl) (hi : SdI g X target iter k it') (hg : ∀ L s0 H0 fp pn, PG (cxG X N scope cl L s0 H0 fp pn) target (tg g.K tgs one))
    (ht : ∀ L s0 H0 fp pn, PTs (cxG X N scope cl L s0 H0 fp pn) ifs (je (g.with fun _ _ _ => False) ifs')) (hkx : ∀ L s0 H0 fp pn, Sd (g.with fun _ _ _ => False) (cxG X N scope cl L s0 H0 fp pn) kx kx') (hvx : ∀ L s0 H0 fp pn, Sd (g.with fun _ _ _ => False) (cxG X N scope cl L s0 H0 fp pn) vx vx')
    (hs : ∀ x, foldedSetIterable iter X.env x = pure x := by intro _; rfl) :
    Sd g X (.DictComp kx vx [⟨target, iter, ifs, 0⟩] scope pos) (.dcomp k one nl tgs fv it' ifs' kx' vx') := by
  intro pins s sg H Q I q
  obtain ⟨rho, st, env, S, n, q⟩ := q
  obtain ⟨wi, hpi, hwi⟩ := hi
  generalize hB : Ll g tgs one (bo nl fv env) ifs' kx' vx' = body
  have q : RQ g ((aa g.tab g.call it' env st).bind fun d st => match Cp k st d with
      | some (xs, p) => (Bi xs p st.length body xs (st ++ [.dct []])).bind fun _ st' => .ok (.loc st.length) st'
      | none => .bad) (Ak g rho H Q) rho H := by
    rw [← hB]
    simp only [aa] at q
    exact q
  rw [arm_eval_DictComp]
  refine wpAny_comprehension_free (use := none) rfl hs hclos hkind hnames ?_
  have hpi := hpi pins s sg H
    (fun J H1 => ∃ r1 st1 xs p, g.Keep rho H r1 H1 ∧ g.Sto r1 st1 H1 ∧ ItJ g J xs p r1 H1 ∧
      RQ g ((Bi xs p st1.length body xs (st1 ++ [.dct []])).bind fun _ st' => .ok (.loc st1.length) st') (Ak g rho H Q) r1 H1) I ?_
  · refine thn hpi fun v s1 h1 => thn h1 fun itv s2 h2 => ?_
    obtain ⟨it, fp, tn, J, H1, rfl, I2, T, st2, f2, r1, st1, xs, p, k1, S1, hJ, q1⟩ := h2
    obtain ⟨stf, hloop, q1⟩ : ∃ stf, Bi xs p st1.length body xs (st1 ++ [.dct []]) = .ok () stf ∧ Ak g rho H Q (.loc st1.length) stf := by
      revert q1
      cases e : Bi xs p st1.length body xs (st1 ++ [.dct []]) with
      | ok u stf => exact fun q => ⟨stf, rfl, q⟩
      | exc c st2 => exact absurd e Lm
      | bad => exact fun q => q.elim
    refine wpAny_newObj_type ?_
    have I3 := I2.laid (a := s2.heap.objs.size) (o := .dK []) (h' := s2.heap.push { cls := .type "dict", data := .dict #[] }) (t' := s2.toks) (fun _ _ q => Heap.get?_push_of_some _ q) (Nat.le_refl _) (wq s2.heap I2.big)
    have hn3 := I2.fresh
    generalize hs3 : ({ s2 with heap := s2.heap.push { cls := .type "dict", data := .dict #[] } } : Shared) = s3
    have I3 : L2.Inv X pins sg (upd H1 s2.heap.objs.size (.dK [])) s3 := by rw [← hs3]; exact I3
    have hsz : s3.heap.objs.size = s2.heap.objs.size + 1 := by rw [← hs3]; exact Heap.size_push _ _
    have up3 : ∀ b o, s2.heap.get? b = some o → s3.heap.get? b = some o := fun b o e => by rw [← hs3]; exact Heap.get?_push_of_some _ e
    have hfp : ∀ b ∈ fp, ck X pins (upd H1 s2.heap.objs.size (.dK [])) b ∧ b < s3.heap.objs.size := fun b hb => by
      obtain ⟨o, ho, _⟩ := T.obj _ _ st2 b hb
      have hlt := Heap.lt_size ho
      refine ⟨⟨?_, (f2 b hb).2⟩, by rw [hsz]; exact Nat.lt_succ_of_lt hlt⟩
      rw [bj (Nat.ne_of_lt hlt)]
      exact (f2 b hb).1
    have k13 : g.Keep r1 H1 (r1 ++ [s2.heap.objs.size]) (upd H1 s2.heap.objs.size (.dK [])) := (S1.laid hn3 (o := .dK []) (c := .dct []) ⟨[], cj, by simp [av]⟩).1
    have S3 : g.Sto (r1 ++ [s2.heap.objs.size]) (st1 ++ [.dct []]) (upd H1 s2.heap.objs.size (.dK [])) := (S1.laid hn3 (o := .dK []) (c := .dct []) ⟨[], cj, by simp [av]⟩).2
    have acc_at : (r1 ++ [s2.heap.objs.size])[st1.length]? = some s2.heap.objs.size := by rw [← S1.len]; simp
    generalize hH3 : upd H1 s2.heap.objs.size (.dK []) = H3 at *
    generalize hac : s2.heap.objs.size = ac at *
    generalize hr3 : r1 ++ [ac] = r3 at *
    refine wpAny_newFunctionEnv hcell (by intro y hy; simp at hy) (fun h₁ hns₁ hsb₁ => ?_) hkind
    have hk1 : ∀ b o, s3.heap.get? b = some o → h₁.get? b = some o := fun b o e => hsb₁.extBut b o (Nat.ne_of_lt (Heap.lt_size e)) (Heap.get?_push_of_some _ e)
    have J0 := ph (N := N) (nl := nl) (fv := fv) (tk := s3.toks + ([] : List (Str × Value)).length) hkind C hN hfv I3 hfp hns₁ hk1
    have n0 := Pj (n.mono (k1.trans k13)) nl fv
    generalize hsg0 : (List.replicate nl none ++ fv.map fun k => (sg[k]?).join : L2.St) = sg0 at J0 n0
    have tn0 : tn 0 h₁ := T.keep _ _ _ st2 fun b _ o e => hk1 b o (up3 b o e)
    have bfp : ∀ {H' : Hp}, (∀ b ∈ fp, H' b = none) → ∀ b ∈ fp, ck (cxG X N scope cl s3.heap.objs.size s3 H3 fp (X.pn ++ pins)) [] H' b := fun hn b hb => by
      obtain ⟨f, hlt⟩ := hfp b hb
      refine ⟨hn b hb, fun z => ?_, Li I3 f, .inl hb, fun y c h => f.2.2.2.2.1 y c (C.sub y c h), fun p hp => f.2.2.2.2.2 p (by rw [List.append_nil] at hp; exact hp)⟩
      have : s3.heap.objs.size < s3.heap.objs.size := by rw [z] at hlt; exact hlt
      exact Nat.lt_irrefl _ this
    have loop : codeAny (model X.prog X.w) X.A (.compLoop (.DictComp kx vx [⟨target, iter, ifs, 0⟩] scope pos) 0 (.ref it) (.ref ac) (Lh X scope cl s3.heap.objs.size))
        (compPost (model X.prog X.w) X.A X.xe none (EP X pins sg Q) (.ref ac) s3.heap.objs.size)
        { s3 with heap := h₁, toks := s3.toks + ([] : List (Str × Value)).length } := by
      refine Yr (fun mm s' => ∃ i rho' st' H' sg', L2.Inv (cxG X N scope cl s3.heap.objs.size s3 H3 fp (X.pn ++ pins)) [] sg' H' s' ∧ tn i s'.heap ∧ (∀ b ∈ fp, H' b = none) ∧ g.Keep r3 H3 rho' H' ∧ g.Sto rho' st' H' ∧ g.Env rho' H' (bo nl fv env) sg' ∧ mm = xs.length - i ∧ i ≤ xs.length ∧
        Bi xs p st1.length body (xs.drop i) st' = .ok () stf) ?_ xs.length ⟨0, r3, _, H3, sg0, J0, tn0, fun b hb => (hfp b hb).1.1, .refl _ _, S3, n0, by simp, Nat.zero_le _, hloop⟩
      rintro mm s' ⟨i, rho', st', H', sg', I', tn', fr', kk, S', n', rfl, hi, hl'⟩
      have hst : stays st' p xs = true := by
        cases z : stays st' p xs with
        | true => rfl
        | false =>
          exfalso
          cases e : xs.drop i with
          | nil => rw [e] at hl'; simp only [Bi, z] at hl'; cases hl'
          | cons d t => rw [e] at hl'; simp only [Bi, z] at hl'; cases hl'
      obtain ⟨jstop, jgo⟩ := hJ rho' st' H' (k13.trans kk) S' hst
      by_cases hlt : i < xs.length
      · obtain ⟨hgo, hy⟩ := jgo i xs[i] (List.getElem?_eq_getElem hlt)
        rw [List.drop_eq_getElem_cons hlt] at hl'
        simp only [Bi, hst, if_true] at hl'
        refine thn (T.item (cxG X N scope cl s3.heap.objs.size s3 H3 fp (X.pn ++ pins)) rfl rfl rfl hc i [] s' sg' H' _ I' (bfp fr') tn' hgo) fun r s4 ⟨u, hr4, h4⟩ => ?_
        subst hr4
        refine thn h4 fun _ s5 ⟨x5, H5, I5, r5, y5, tn5, fr5⟩ => ?_
        obtain ⟨e5, rx5⟩ := hy x5 H5 y5
        have k5 : g.Keep rho' H' rho' H5 := Bd.keep e5 rho'
        have kk := kk.trans k5
        have S' := S'.same e5
        have n' := n'.mono k5
        have I5' := I5.pinned (bfp fr5) (T.obj _ _ tn5)
        obtain ⟨env', es⟩ : ∃ env', store tgs one xs[i] (bo nl fv env) = some env' := by
          cases es : store tgs one xs[i] (bo nl fv env) with
          | some env' => exact ⟨env', rfl⟩
          | none =>
            exfalso
            have : body xs[i] st' = .bad := by rw [← hB]; unfold Ll; rw [es]
            rw [this] at hl'; cases hl'
        have hbody : body xs[i] st' = (Bo g.tab g.call ifs' env' st').bind fun b st => if b then (aa g.tab g.call kx' env' st).bind fun k st => (aa g.tab g.call vx' env' st).bind fun y st => .ok (some (k, y)) st else .ok none st := by
          rw [← hB]; unfold Ll; rw [es]
        rw [hbody] at hl'
        obtain ⟨hel, hhi⟩ := Ph es htg
        refine wpAny_mono (hg s3.heap.objs.size s3 H3 fp (X.pn ++ pins) _ s5 sg' H5 x5 u (fun sg6 H6 => H6 = H5 ∧ g.Env rho' H6 env' sg6) I5' r5 (gx (g := g) es rx5 n' fun sg6 n6 => ⟨rfl, n6⟩)) (fun _ s6 h6 => ?_) (fun _ _ z => z.elim)
        obtain ⟨sg6, H6, I6, e6, n6⟩ := h6
        subst e6
        obtain ⟨b, st2, eb, hl'⟩ : ∃ b st2, Bo g.tab g.call ifs' env' st' = .ok b st2 ∧ (match (if b then (aa g.tab g.call kx' env' st2).bind fun k st => (aa g.tab g.call vx' env' st).bind fun y st => .ok (some (k, y)) st else .ok none st2 : Res (Option (D × D))) with
            | .ok (some (k, y)) st' => (match st'[st1.length]? with
              | some (.dct kvs) => if kvs.length < sizeLine ∧ Bs k = true then Bi xs p st1.length body (xs.drop (i + 1)) (st'.set st1.length (.dct (bu kvs k y))) else .bad
              | _ => .bad)
            | .ok none st' => Bi xs p st1.length body (xs.drop (i + 1)) st'
            | _ => .bad) = Res.ok () stf := by
          cases eb : Bo g.tab g.call ifs' env' st' with
          | ok b st2 => rw [eb] at hl'; exact ⟨b, st2, rfl, hl'⟩
          | exc c st2 => rw [eb] at hl'; cases hl'
          | bad => rw [eb] at hl'; cases hl'
        refine wpAny_mono (ht s3.heap.objs.size s3 H3 fp (X.pn ++ pins) _ s6 sg6 H6 (fun b' H7 => b' = b ∧ ∃ rho7, g.Keep rho' H6 rho7 H7 ∧ g.Sto rho7 st2 H7) I6 ⟨rho', st', env', S', n6, ?_⟩) (fun ok s7 h7 => ?_) (fun _ _ z => z.elim)
        · show RQ (g.with fun _ _ _ => False) (Bo g.tab g.call ifs' env' st') _ rho' H6
          rw [eb]
          exact fun H7 rho7 k7 s7 => ⟨rfl, rho7, k7, s7⟩
        obtain ⟨H7, I7, e7, rho7, k7, S7⟩ := h7
        subst e7
        have n7 : g.Env rho7 H7 env' sg6 := n6.mono k7
        have done : ∀ (rho9 : List Addr) (st9 : Sto) (H9 : Hp) (s9 : Shared), L2.Inv (cxG X N scope cl s3.heap.objs.size s3 H3 fp (X.pn ++ pins)) ([] ++ Gp fp s5.heap) sg6 H9 s9 → g.Keep rho7 H7 rho9 H9 → g.Sto rho9 st9 H9 → Bi xs p st1.length body (xs.drop (i + 1)) st9 = .ok () stf →
            ∃ m, m < xs.length - i ∧ ∃ i rho' st' H' sg', L2.Inv (cxG X N scope cl s3.heap.objs.size s3 H3 fp (X.pn ++ pins)) [] sg' H' s9 ∧ tn i s9.heap ∧ (∀ b ∈ fp, H' b = none) ∧ g.Keep r3 H3 rho' H' ∧ g.Sto rho' st' H' ∧ g.Env rho' H' (bo nl fv env) sg' ∧ m = xs.length - i ∧ i ≤ xs.length ∧ Bi xs p st1.length body (xs.drop i) st' = .ok () stf := by
          intro rho9 st9 H9 s9 I9 k9 S9 hl9
          refine ⟨xs.length - (i + 1), by omega, i + 1, rho9, st9, H9, sg6, I9.unpinned, T.keep _ _ _ tn5 fun b hb o e => (I9.pin (b, o) (List.mem_append_right _ (List.mem_append_right _ (gq hb e)))).1, fun b hb => ?_, (kk.trans k7).trans k9, S9, Pk rfl hel hhi (n7.mono k9), rfl, hlt, hl9⟩
          obtain ⟨o, e, d⟩ := T.obj _ _ tn5 b hb
          exact (I9.pin (b, o) (List.mem_append_right _ (List.mem_append_right _ (gq hb e)))).2.1
        cases ok with
        | false =>
          rw [if_neg Bool.false_ne_true]
          simp only [Bool.false_eq_true, if_false] at hl'
          exact done rho7 st2 H7 s7 I7 (.refl _ _) S7 hl'
        | true =>
          rw [if_pos rfl]
          simp only [if_true] at hl'
          obtain ⟨kd, st3, ek, hl'⟩ : ∃ kd st3, aa g.tab g.call kx' env' st2 = .ok kd st3 ∧ (match ((aa g.tab g.call vx' env' st3).bind fun y st => .ok (some (kd, y)) st : Res (Option (D × D))) with
            | .ok (some (k, y)) st' => (match st'[st1.length]? with
              | some (.dct kvs) => if kvs.length < sizeLine ∧ Bs k = true then Bi xs p st1.length body (xs.drop (i + 1)) (st'.set st1.length (.dct (bu kvs k y))) else .bad
              | _ => .bad)
            | .ok none st' => Bi xs p st1.length body (xs.drop (i + 1)) st'
            | _ => .bad) = Res.ok () stf := by
            cases ek : aa g.tab g.call kx' env' st2 with
            | ok kd st3 => rw [ek] at hl'; exact ⟨kd, st3, rfl, hl'⟩
            | exc c st4 => rw [ek] at hl'; cases hl'
            | bad => rw [ek] at hl'; cases hl'
          obtain ⟨y, st4, ee, hl'⟩ : ∃ y st4, aa g.tab g.call vx' env' st3 = .ok y st4 ∧ (match st4[st1.length]? with
              | some (.dct kvs) => if kvs.length < sizeLine ∧ Bs kd = true then Bi xs p st1.length body (xs.drop (i + 1)) (st4.set st1.length (.dct (bu kvs kd y))) else .bad
              | _ => .bad) = Res.ok () stf := by
            cases ee : aa g.tab g.call vx' env' st3 with
            | ok y st4 => rw [ee] at hl'; exact ⟨y, st4, rfl, hl'⟩
            | exc c st4 => rw [ee] at hl'; cases hl'
            | bad => rw [ee] at hl'; cases hl'
          obtain ⟨kvs, ey, ⟨hys, hkd⟩, hl'⟩ : ∃ kvs, st4[st1.length]? = some (.dct kvs) ∧ (kvs.length < sizeLine ∧ Bs kd = true) ∧ Bi xs p st1.length body (xs.drop (i + 1)) (st4.set st1.length (.dct (bu kvs kd y))) = .ok () stf := by
            split at hl'
            · rename_i kvs ey
              split at hl'
              · rename_i hys; exact ⟨kvs, ey, hys, hl'⟩
              · cases hl'
            · cases hl'
          refine wpAny_mono (hkx s3.heap.objs.size s3 H3 fp (X.pn ++ pins) _ s7 sg6 H7 (fun w H8 => ∃ rho8, g.Keep rho7 H7 rho8 H8 ∧ g.Sto rho8 st3 H8 ∧ g.Rep rho8 H8 kd w) I7 ⟨rho7, st2, env', S7, n7, ?_⟩) (fun kv s8 h8 => ?_) (fun _ _ z => z.elim)
          · show RQ (g.with fun _ _ _ => False) (aa g.tab g.call kx' env' st2) _ rho7 H7
            rw [ek]
            exact fun w H8 rho8 k8 s8 r8 => ⟨rho8, k8, s8, r8⟩
          obtain ⟨wk, H8, I8, rw8, rho8, k8, S8, rp8⟩ := h8
          refine wpAny_mono (hvx s3.heap.objs.size s3 H3 fp (X.pn ++ pins) _ s8 sg6 H8 (fun w H9 => ∃ rho9, g.Keep rho8 H8 rho9 H9 ∧ g.Sto rho9 st4 H9 ∧ g.Rep rho9 H9 y w) I8 ⟨rho8, st3, env', S8, n7.mono k8, ?_⟩) (fun yv s9 h9 => ?_) (fun _ _ z => z.elim)
          · show RQ (g.with fun _ _ _ => False) (aa g.tab g.call vx' env' st3) _ rho8 H8
            rw [ee]
            exact fun w H9 rho9 k9 s9 r9 => ⟨rho9, k9, s9, r9⟩
          obtain ⟨w, H9, I9, rw9, rho9, k9, S9, rp9⟩ := h9
          obtain ⟨kk9, ekk⟩ := Ht hkd
          have rpk := rp8.mono k9
          cases Hu rpk ekk
          have edc : Ba st4 st1.length = some kvs := by unfold Ba; rw [ey]
          obtain ⟨a9, ws, hr9, _, hH9, kv9⟩ := fe S9 edc
          rw [k9.at (k8.at (k7.at (kk.at acc_at)))] at hr9; cases hr9
          obtain ⟨k10, S10⟩ := pq S9 (k9.at (k8.at (k7.at (kk.at acc_at)))) ey hH9 (Po ekk rp9 kv9)
          exact yq (X := cxG X N scope cl s3.heap.objs.size s3 H3 fp (X.pn ++ pins)) I9 hH9 (by rw [← Je kv9]; exact hys) rw8 rw9 fun s10 I10 => done rho9 _ _ s10 I10 ((k8.trans k9).trans k10) S10 hl'
      · have ei : i = xs.length := by omega
        subst ei
        refine thn (T.done (cxG X N scope cl s3.heap.objs.size s3 H3 fp (X.pn ++ pins)) rfl rfl rfl hc xs.length [] s' sg' H' _ I' (bfp fr') tn' jstop) fun r s4 ⟨hr4, I4⟩ => ?_
        subst hr4
        rw [List.drop_eq_nil_of_le (Nat.le_refl _)] at hl'
        simp only [Bi, hst, if_true] at hl'
        cases hl'
        obtain ⟨m4, hn4, _⟩ := I4.loc
        refine ⟨m4, hn4, fun h' sb => ?_⟩
        refine ⟨.ref ac, H', ?_, rfl, q1 (.ref ac) H' rho' ((k1.trans k13).trans kk) S' (bb.mpr ⟨ac, kk.at acc_at, rfl⟩)⟩
        have u4 : Un (frs X.stack) fp H3 H' s3.heap s4.heap := I4.base
        have hL : ∀ b o, s3.heap.get? b = some o → b ≠ s3.heap.objs.size := fun b o e => Nat.ne_of_lt (Heap.lt_size e)
        have fL : H' s3.heap.objs.size = none := I4.free
        refine I3.call' (s' := { s4 with heap := h' }) (ch := fp) I4.os ⟨fun b o e n hb hx => (sb.2 b (hL b o e)).trans (u4.keep b o e n hb hx), fun b o e n hb hx => ?_, u4.free, fun b o e hx => ?_, u4.tups, u4.frzs, u4.tbls⟩ (fun b o e => ?_) I4.bare fun b hb => ?_
        · obtain ⟨sl, e1⟩ := u4.slot b o e n hb hx
          exact ⟨sl, (sb.2 b (hL b o e)).trans e1⟩
        · obtain ⟨o', e1⟩ := u4.there b o e hx
          exact ⟨o', (sb.2 b (hL b o e)).trans e1⟩
        · refine (I4.hok b o e).stay (fun c u hc' g' => (sb.2 c ?_).trans g') (fun _ h => h) fun _ _ h => h
          intro z
          rcases hc' with rfl | hc'
          · rw [z, fL] at e; cases e
          · rw [z, fL] at hc'; cases hc'
        · obtain ⟨f, _⟩ := hfp b hb
          exact ⟨f.2.2.2.1, f.2.1, f.2.2.2.2.1, f.2.2.2.2.2⟩
    exact codeAny_compStart_dict loop (T.self _ 0 _ _ _ tn0 loop)
  · refine hwi rho st env sg H _ S n ?_
    revert q
    cases aa g.tab g.call it' env st with
    | bad => exact fun q => q
    | exc c st1 => exact fun q => q
    | ok d st1 =>
      simp only [bc]
      intro q
      cases ei : Cp k st1 d with
      | none => rw [ei] at q; exact q.elim
      | some xp =>
        obtain ⟨xs, p⟩ := xp
        rw [ei] at q
        exact ⟨xs, p, ei, fun H1 r1 J k1 s1 hJ => ⟨r1, st1, xs, p, k1, s1, hJ, RQ.mono k1 q fun _ _ z => z⟩⟩
end DD
namespace DD
open PySem PySem.Spec L2
open PyProof.Rows hiding St RelV
variable {g : G} {X : Cx} {pos pos' apos cpos : Pos} {F : Nat} {a b c : Expr} {a' b' c' : E}
theorem RepL.set {rho : List Addr} {H : Hp} {y : D} {v : V} : ∀ {ds : List D} {vs : List V} (i : Nat), g.Rep rho H y v → g.RepL rho H ds vs → g.RepL rho H (ds.set i y) (vs.set i v)
 | [], vs, i, _, r => by simp only [DD.RepL] at r; subst r; simp [DD.RepL]
 | d :: t, vs, 0, ry, r => by
  simp only [DD.RepL] at r
  obtain ⟨x, w, rfl, r1, r2⟩ := r
  simp only [List.set_cons_zero, DD.RepL]
  exact ⟨v, w, rfl, ry, r2⟩
 | d :: t, vs, i + 1, ry, r => by
  simp only [DD.RepL] at r
  obtain ⟨x, w, rfl, r1, r2⟩ := r
  simp only [List.set_cons_succ, DD.RepL]
  exact ⟨x, _, rfl, r1, RepL.set i ry r2⟩
end DD
namespace DD
open PySem PySem.Spec L2
open PyProof.Rows hiding St RelV
variable {g : G} {X : Cx} {pos : Pos} {F : Nat}
end DD
namespace DD
open PySem PySem.Spec L2
open PyProof.Rows hiding St RelV
variable {g : G} {X : Cx} {pos apos cpos : Pos} {F : Nat}
end DD
namespace DD
open PySem PySem.Spec L2
open PyProof.Rows hiding St RelV
section
variable {prog : Program} {w : World} {K : Type} [DecidableEq K] {knd : HeapKind prog w K} {A : Around} {E : Value → Shared → Prop} {s : Shared}
end
end DD
namespace DD
open PySem PySem.Spec L2
open PyProof.Rows hiding St RelV
variable {g : G} {X : Cx} {a b : Expr} {a' b' : E} {pos apos cpos : Pos} {F : Nat}
end DD
namespace DD
open PySem PySem.Spec L2
open PyProof.Rows hiding St RelV
section
variable {prog : Program} {w : World} {K : Type} [DecidableEq K] {knd : HeapKind prog w K} {A : Around} {E : Value → Shared → Prop} {s : Shared}
end
variable {g : G} {X : Cx} {pos apos cpos : Pos} {o e f : Expr} {o' e' f' : E}
end DD
namespace DD
open PySem PySem.Spec L2
variable {tab : Nat → Ty → Option Bool} {call : Or}
theorem Ys {i : Nat} : ∀ env st, Aj tab call (.var i) env st = (aa tab call (.var i) env st).bind fun d st => match truth st d with | some b => .ok b st | none => .bad := fun env st => by
 simp only [Aj, aa]
 cases Cd env i <;> rfl
theorem Dh {f : Nat} {es : Es} {dv : List D} : ∀ env st, Aj tab call (.call f es dv) env st = (aa tab call (.call f es dv) env st).bind fun d st => match truth st d with | some b => .ok b st | none => .bad := fun env st => by
 simp only [Aj, aa]
 cases As tab call es env st <;> rfl
theorem Pw {f : Bt} {es : Es} : ∀ env st, Aj tab call (.bt f es) env st = (aa tab call (.bt f es) env st).bind fun d st => match truth st d with | some b => .ok b st | none => .bad := fun env st => by
 simp only [Aj, aa]
 cases As tab call es env st <;> rfl
theorem di {a : E} {t : Ty} : ∀ env st, Aj tab call (.isi a t) env st = (aa tab call (.isi a t) env st).bind fun d st => match truth st d with | some b => .ok b st | none => .bad := fun env st => by
 simp only [Aj, aa]
 cases aa tab call a env st with
 | ok x st1 =>
  simp only [bc]
  cases (Et st1 x).bind fun u => Ey tab u t <;> rfl
 | _ => rfl
end DD
namespace DD
open PySem
end DD
namespace DD
open PySem PySem.Spec L2
open PyProof.Rows hiding St RelV
variable {g : G} {X : Cx} {pos : Pos} {F : Nat}
def Ln : NameKind → Bool
 | .cell => true
 | .free => true
 | _ => false
def Lo (cells : List (Str × Addr)) : List (Str × Addr) → Prop
 | [] => True
 | p :: l => cells.lookup p.1 = some p.2 ∧ Lo cells l
theorem Px {cells : List (Str × Addr)} : ∀ {cl : List (Str × Addr)}, Lo cells cl → ∀ x c, cl.lookup x = some c → cells.lookup x = some c
 | [], _, x, c, h => by cases h
 | (k, a) :: l, ⟨h1, h2⟩, x, c, h => by
  rw [List.lookup_cons] at h
  split at h
  · rename_i e
    cases h; rw [eq_of_beq e]; exact h1
  · exact Px h2 x c h
def Py (cl : List (Str × Addr)) (names : List (Str × NameKind)) : Bool := names.all fun p => !Ln p.2 || (cl.lookup p.1).isSome
theorem lp {α : Type} : ∀ {l : List (Str × α)} {x : Str} {a : α}, l.lookup x = some a → (x, a) ∈ l
 | [], x, a, h => by cases h
 | (k, b) :: l, x, a, h => by
  rw [List.lookup_cons] at h
  split at h
  · rename_i e; cases h; rw [eq_of_beq e]; exact .head _
  · exact .tail _ (lp h)
theorem Di {scope : Scope} {cl : List (Str × Addr)} (h1 : Lo X.env.cells cl) (h2 : Py cl (relabel scope X.env).names = true) : Clos X scope cl := by
 refine ⟨Px h1, fun x h => ?_⟩
 unfold Py at h2
 rw [List.all_eq_true] at h2
 rcases h with h | h
 · have := h2 _ (lp h)
   simp only [Ln, Bool.not_true, Bool.false_or] at this
   exact Option.isSome_iff_exists.mp this
 · have := h2 _ (lp h)
   simp only [Ln, Bool.not_true, Bool.false_or] at this
   exact Option.isSome_iff_exists.mp this
def FvO (N XN : List Str) (cl : List (Str × Addr)) (n1 n2 : List (Str × NameKind)) (nl : Nat) : Nat → List Nat → Prop
 | _, [] => True
 | j, k :: l => (∃ x c, N[nl + j]? = some x ∧ XN[k]? = some x ∧ cl.lookup x = some c ∧ (n1.lookup x = some .cell ∨ n1.lookup x = some .free) ∧ (n2.lookup x = some .cell ∨ n2.lookup x = some .free)) ∧ FvO N XN cl n1 n2 nl (j + 1) l
theorem pz {N XN : List Str} {cl : List (Str × Addr)} {n1 n2 : List (Str × NameKind)} {nl : Nat} : ∀ {l : List Nat} {a : Nat}, FvO N XN cl n1 n2 nl a l → ∀ j k, l[j]? = some k → ∃ x c, N[nl + (a + j)]? = some x ∧ XN[k]? = some x ∧ cl.lookup x = some c ∧ (n1.lookup x = some .cell ∨ n1.lookup x = some .free) ∧ (n2.lookup x = some .cell ∨ n2.lookup x = some .free)
 | [], a, _, j, k, h => by simp at h
 | k0 :: l, a, ⟨h1, h2⟩, 0, k, h => by
  simp only [List.getElem?_cons_zero, Option.some.injEq] at h
  subst h; exact h1
 | k0 :: l, a, ⟨h1, h2⟩, j + 1, k, h => by
  simp only [List.getElem?_cons_succ] at h
  obtain ⟨x, c, q⟩ := pz h2 j k h
  refine ⟨x, c, ?_⟩
  rwa [show nl + (a + (j + 1)) = nl + (a + 1 + j) by omega]
theorem dj {N : List Str} {nl : Nat} {fv : List Nat} {scope : Scope} {cl : List (Str × Addr)} (h : FvO N X.N cl X.env.scope.names (relabel scope X.env).names nl 0 fv) :
    ∀ j k, fv[j]? = some k → ∃ x c, N[nl + j]? = some x ∧ X.N[k]? = some x ∧ cl.lookup x = some c ∧ (X.env.scope.names.lookup x = some .cell ∨ X.env.scope.names.lookup x = some .free) ∧ ((relabel scope X.env).names.lookup x = some .cell ∨ (relabel scope X.env).names.lookup x = some .free) := fun j k hj => by
  have := pz h j k hj
  rwa [Nat.zero_add] at this
end DD
namespace DD
open PySem PySem.Spec L2
open PyProof.Rows hiding St RelV
variable {g : G} {X : Cx} {pos apos cpos p2 : Pos} {F : Nat} {a b c : Expr} {a' b' c' : E}
end DD
namespace DD
open PySem PySem.Spec L2
open PyProof.Rows hiding St RelV
open PySem.W (kdl_call kdl_values kdl_vals_eq kdl_dict)
variable {g : G} {X : Cx} {pos apos cpos p2 : Pos} {F : Nat} {a b c : Expr} {a' b' c' : E}
theorem jf {α β : Type} {f g : α → Option β} : ∀ (l : List α), (∀ x ∈ l, f x = g x) → l.filterMap f = l.filterMap g
 | [], _ => rfl
 | x :: r, h => by
  rw [List.filterMap_cons, List.filterMap_cons, h x (by simp), jf r fun y hy => h y (List.mem_cons_of_mem _ hy)]
theorem yt {α : Type} (l : List α) : (List.range l.length).filterMap (fun k => l[k]?) = l := by
 have : ∀ (m : List α) (k : Nat), (List.range' k m.length).filterMap (fun j => (List.replicate k none ++ m.map some)[j]?.join) = m := by
  intro m
  induction m with
  | nil => intro k; rfl
  | cons x r ih =>
   intro k
   simp only [List.length_cons, List.range'_succ, List.filterMap_cons]
   rw [List.getElem?_append_right (by simp)]
   simp only [List.length_replicate, Nat.sub_self, List.map_cons, List.getElem?_cons_zero, Option.join_some]
   congr 1
   have h := ih (k + 1)
   refine Eq.trans (jf _ fun j hj => ?_) h
   have hj2 := (List.mem_range'_1.mp hj).1
   rw [List.getElem?_append_right (by simp; omega), List.getElem?_append_right (by simp; omega)]
   simp only [List.length_replicate]
   rw [show j - k = (j - (k + 1)) + 1 by omega, List.getElem?_cons_succ]
 have h := this l 0
 rw [← List.range_eq_range'] at h
 refine Eq.trans (jf _ fun j hj => ?_) h
 simp [Option.join]
 cases l[j]? <;> rfl
theorem Yt (its : List Value) : slicePick its.toArray none none (some (-1)) = its.reverse.toArray := by
 unfold slicePick sliceBounds sliceRange
 simp only [Option.getD_some, List.size_toArray]
 have hc : (if (its.length : Int) - 1 > -1 then ((its.length : Int) - 1 - -1 - -1 - 1) / (- -1) else 0).toNat = its.length := by
  split
  · simp
  · omega
 simp only [show ¬ ((-1 : Int) > 0) by decide, if_false]
 rw [hc]
 congr 1
 rw [List.filterMap_map]
 refine Eq.trans ?_ ((congrArg (fun n => (List.range n).filterMap (fun k => its.reverse[k]?)) its.length_reverse.symm).trans (yt its.reverse))
 refine jf _ fun k hk => ?_
 have hk := List.mem_range.mp hk
 rw [List.getElem?_reverse hk]
 simp only [Function.comp]
 rw [show ((its.length : Int) - 1 + -1 * (k : Int)).toNat = its.length - 1 - k by omega]
 simp
def yu (K : PySem.W.Frag) (te : TE) (ts : TO) : TE := fun sg H Q => te sg H fun x H1 => ts sg H1 fun u H2 => u = some (-1) ∧ ∃ a xs, x = .ref a ∧ SqL K H2 a xs ∧ ∀ p, H2 p = none → Q (.ref p) (upd H2 p (.lst xs.reverse))
theorem Yu {xs : List V} {us : List Value} (h : Vals xs us) : Vals xs.reverse us.reverse := by
 induction h with
 | nil => exact .nil
 | cons p t ih =>
  rw [List.reverse_cons, List.reverse_cons]
  exact ih.append (.cons p .nil)
theorem Yv {e se : Expr} {te : TE} {ts : TO} (he : PE X e te) (hs : PO X (some se) ts) : PE X (.Subscript e (.Slice none none (some se) p2) pos) (yu X.K te ts) := by
 intro pins s sg H Q I h
 refine Subscript_ (thn (he pins s sg H _ I h) fun v s1 ⟨x, H1, I1, r1, q1⟩ => ?_)
 refine wpAny_Slice ?_
 rw [evalPart_none]
 refine wpAny_pure (wpAny_pure (thn (hs pins s1 sg H1 _ I1 q1) fun vs s3 ⟨u, H3, I3, pu, eu, a, xs, ex, hx, q3⟩ => ?_))
 subst eu ex
 cases r1
 have I4 : L2.Inv X pins sg H3 { s3 with heap := s3.heap.push { cls := .type "slice", data := .fields #[.none, .none, vs] } } := I3.kept (t' := s3.toks) fun b ob q => Heap.get?_push_of_some _ q
 obtain ⟨its, r, ht, hz⟩ := I4.list hx
 show wpAny (model X.prog X.w) X.A (subscriptTail e (.Slice none none (some se) p2) (.ref a) (.ref s3.heap.objs.size)) (EP X pins sg Q) X.xe { s3 with heap := s3.heap.push { cls := .type "slice", data := .fields #[.none, .none, vs] } }
 refine tail_any (ops := [.ref a, .ref s3.heap.objs.size]) ht.isList.typeIs slot_list_getitem.lookup ?_ (by with_unfolding_all rfl)
 refine wpAny_getItem_list_slice ht.isList (Heap.IsSliceOf.new ..) .none .none pu (by simp) ?_ (by rw [List.size_toArray, ← r.length]; exact hz)
 rw [Yt]
 refine ⟨.ref _, _, I4.laid (t' := s3.toks) (o := .lst xs.reverse) (fun b ob q => Heap.get?_push_of_some _ q) (Nat.le_refl _) ?_, rfl, q3 _ (I4.hok.fresh (Nat.le_refl _))⟩
 exact ⟨by simpa using hz, _, 0, Yu r, Heap.get?_push_size _ rfl⟩
theorem yw {rho : List Addr} {H : Hp} {ds : List D} {vs : List V} (h : g.RepL rho H ds vs) : g.RepL rho H ds.reverse vs.reverse := by
 have app : ∀ {ds : List D} {vs : List V} {es : List D} {us : List V}, g.RepL rho H ds vs → g.RepL rho H es us → g.RepL rho H (ds ++ es) (vs ++ us) := by
  intro ds
  induction ds with
  | nil => intro vs es us h1 h2; simp only [G.RepL, RepL] at h1; subst h1; exact h2
  | cons d r ih =>
   intro vs es us h1 h2
   simp only [G.RepL, RepL] at h1
   obtain ⟨v, t, rfl, rd, q⟩ := h1
   simp only [List.cons_append, G.RepL, RepL]
   exact ⟨v, _, rfl, rd, ih q h2⟩
 induction ds generalizing vs with
 | nil => simp only [G.RepL, RepL] at h; subst h; simp [G.RepL, RepL]
 | cons d r ih =>
  simp only [G.RepL, RepL] at h
  obtain ⟨v, t, rfl, rd, q⟩ := h
  rw [List.reverse_cons, List.reverse_cons]
  exact app (ih q) (by simp only [G.RepL, RepL]; exact ⟨v, [], rfl, rd, rfl⟩)
theorem Yw {e se : Expr} {e' : E} (hK : X.K = g.K) (ha : Sd g X e e') (hb : Sd g X se (.neg (.cst (.int 1)))) : Sd g X (.Subscript e (.Slice none none (some se) p2) pos) (.mt .rev e' .nil) := Ay (Yv ha (Kn hb)) fun sg H Q q => by
 obtain ⟨rho, st, env, s, n, q⟩ := q
 simp only [aa, As, bc] at q
 refine step s n q fun d st1 x H1 r1 k1 s1 n1 rp q1 => ?_
 split at q1
 · rename_i hl
   refine ⟨r1, st1, env, s1, n1, ?_⟩
   simp only [aa, bc]
   intro v H2 r2 k2 s2 rv
   refine ⟨-1, Aq.mp rv, rfl, ?_⟩
   cases d with
   | loc j =>
    cases ed : Am st1 j with
    | none => simp only [rdy, ed] at hl; cases hl
    | some xs =>
     simp only [mtD, ed] at q1
     obtain ⟨p, vs, h1, sq, rl⟩ := Dg s2 ed
     obtain ⟨p2, h2, rfl⟩ := bb.mp (rp.mono k2)
     rw [h1] at h2; cases h2
     exact ⟨p, vs, rfl, by rw [hK]; exact sq, fun l hl => Hq s2 (yw rl) hl (show Ak g r2 H2 Q (.loc st1.length) _ from Ak.mono (k1.trans k2) q1)⟩
   | _ => cases hl
 · exact q1.elim
end DD
namespace DD
open PySem PySem.Spec
section
variable {pr : Program} {w : World} {A : Around} {Kt : Type} [DecidableEq Kt] {kn : KeyKind pr w Kt}
def met (f : Nat → Kt) : Nat → List Kt
 | 0 => []
 | i + 1 => if f i ∈ met f i then met f i else met f i ++ [f i]
theorem Pz (f : Nat → Kt) : ∀ i, (met f i).length ≤ i
 | 0 => by simp [met]
 | i + 1 => by
  have := Pz f i
  simp only [met]
  split <;> simp <;> omega
theorem yx (f : Nat → Kt) (i : Nat) (k : Kt) : decide (k ∈ met f (i + 1)) = (decide (k ∈ met f i) || decide (k = f i)) := by
 simp only [met]
 split
 · rename_i h
   by_cases e : k = f i
   · subst e; simp [h]
   · simp [e]
 · simp [List.mem_append, Bool.decide_or]
theorem Yx (f : Nat → Kt) (i : Nat) : (met f (i + 1)).length = if decide (f i ∈ met f i) = true then (met f i).length else (met f i).length + 1 := by
 simp only [met, decide_eq_true_eq]
 split <;> simp
variable {R : Result → Shared → Prop} {I : Addr} {fp wr : List Addr} {G : Array GenState → Array GenState → Prop} {n : Nat} {P : Nat → Value → Prop} {St : Nat → Shared → Prop}
theorem Yy (W : WalksS pr w A.in1 I fp wr G n P St) (T : Addr) (nT : T ∉ fp) (f : Nat → Kt) (hv : ∀ i v, P i v → kn.is (f i) v = true ∧ v.scannable = true) (hb : n + 1 < scanBound) :
    ∀ (k i : Nat) (s : Shared), n - i = k → i ≤ n → St i s → s.heap.SetOf kn T (fun x => decide (x ∈ met f i)) (met f i).length →
      (∀ s1, Moved (T :: wr) G s s1 → s1.heap.SetOf kn T (fun x => decide (x ∈ met f n)) (met f n).length → R (.ok (.ret .none)) s1) →
      codeAny (model pr w) A (.builtin "set.update.loop" ⟨[.ref T, .ref I], []⟩) R s := by
  have nW : T ∉ wr := fun z => nT (W.sub _ z)
  have sb : ∀ b ∈ wr, b ∈ T :: wr := fun b z => List.mem_cons_of_mem _ z
  have kp : ∀ {x y : Shared} {g : Kt → Bool} {m : Nat}, Moved wr G x y → x.heap.SetOf kn T g m → y.heap.SetOf kn T g m := by
    intro x y g m mv z
    obtain ⟨o, es, ep, tb, q, r⟩ := z
    exact ⟨o, es, ep, tb, mv.heap T _ nW q, r⟩
  intro k
  induction k with
  | zero =>
    intro i s e1 e2 ht hT hR
    obtain rfl : i = n := by omega
    refine codeAny_builtin PyProof.Rows.F.entry_set_update_loop ?_
    rw [Around.under_plainId PyProof.Rows.F.plain_set_update_loop _]
    change wpAny _ A.in1 (pyNext (.ref I) >>= _) _ _ s
    refine wpAny_bind (W.done s _ _ ht fun s1 mv => ?_)
    change wpAny _ A.in1 (ret Value.none) _ _ s1
    exact wpAny_pure (hR s1 (mv.mono sb) (kp mv hT))
  | succ k ih =>
    intro i s e1 e2 ht hT hR
    have lt : i < n := by omega
    refine codeAny_builtin PyProof.Rows.F.entry_set_update_loop ?_
    rw [Around.under_plainId PyProof.Rows.F.plain_set_update_loop _]
    change wpAny _ A.in1 (pyNext (.ref I) >>= _) _ _ s
    refine wpAny_bind (W.item i s _ _ lt ht fun v s1 hP ht1 mv => ?_)
    obtain ⟨hk, hs⟩ := hv i v hP
    have hT1 := kp mv hT
    change wpAny _ A.in1 (holding [v] (setAdd T v) >>= _) _ _ s1
    refine wpAny_bind (wpAny_holding ?_)
    unfold setAdd
    refine wpAny_holding (wpAny_bind (kn.pyHash (k := f i) hk ?_))
    have rm : (met f i).length + 1 < scanBound := by have := Pz f i; omega
    refine wpAny_setAddHashed_of (knd := kn) (s := { s1 with toks := s1.toks + 1 }) hk hs hT1 rm fun h1 hsb hT2 => ?_
    have hT3 : h1.SetOf kn T (fun x => decide (x ∈ met f (i + 1))) (met f (i + 1)).length := by
      rw [Yx, show (fun x => decide (x ∈ met f (i + 1))) = fun x => decide (x ∈ met f i) || decide (x = f i) from funext (yx f i)]
      exact hT2
    refine wpAny_pure ⟨plainId_quiet PyProof.Rows.F.plain_set_update_loop _, ih (i + 1) _ (by omega) lt (W.frame _ s1 _ _ ht1 (Nat.le_succ _) fun b hb o e => ?_) hT3 fun s2 mv2 hT4 => ?_⟩
    · exact (hsb.2 b fun z => nT (z ▸ hb)).trans e
    · refine hR s2 (Moved.trans W.gtrans ((mv.mono sb).then_heap (Nat.le_succ _) fun b o nb e => ?_) mv2) hT4
      exact (hsb.2 b fun z => nb (z ▸ List.mem_cons_self)).trans e
end
end DD
namespace DD
open PySem PySem.Spec
section
variable {pr : Program} {w : World} {A : Around} {Er : Value → Shared → Prop} {s : Shared} {Kt : Type} [DecidableEq Kt] {kn : KeyKind pr w Kt}
abbrev Ff (b : Bool) : Obj := { cls := .type "set", dict := none, data := .set #[] 0 (.fresh 0 0 b) }
theorem yz {l : Addr} {its : Array Value} {f : Nat → Kt} {Q : Value → Shared → Prop} (hh : A.handled = none) (hl : s.heap.IsList l its) (hv : ∀ i v, its[i]? = some v → kn.is (f i) v = true ∧ v.scannable = true) (hb : its.size + 1 < scanBound)
    (hq : ∀ (h1 : Heap) (tk : Nat), h1.SetOf kn s.heap.objs.size (fun x => decide (x ∈ met f its.size)) (met f its.size).length → (∀ b o, b < s.heap.objs.size → s.heap.get? b = some o → h1.get? b = some o) → Q (.ref s.heap.objs.size) { s with heap := h1, toks := tk }) :
    wpAny (model pr w) A (call (.type "set") [.ref l]) Q Er s := by
  obtain ⟨c, tl, xm⟩ := PySem.F.called_set.mro
  have x1 := PySem.F.called_set.made
  have x2 := PySem.F.called_set.sub
  refine wpAny_call (codeAny_of_tree ?_)
  change wpAny _ _ (callAny (.type "set") _) _ _ _
  refine wpAny_pure ⟨Code.quiet_builtin _ (by decide +kernel), codeAny_builtin PySem.F.entry_type_call ?_⟩
  rw [Around.under_plain (weight_type_call_type "set" [.ref l] []) rfl]
  have x3 := PySem.F.called_set.notType
  have x4 := PySem.F.called_set.canCreate
  have x5 := PySem.F.typeCall_set_1 (.ref l)
  repeat (any_goals (first | assumption | wp_step))
  refine codeAny_mono (code_set_new_1 (.ref l) (E := Er) (Q₁ := fun ob s1 => ∃ b : Bool, ob = .ref s.heap.objs.size ∧ s1 = { s with heap := s.heap.push (Ff b) }) fun b => ⟨b, rfl, rfl⟩) fun r s1 z => ?_
  cases r with
  | error e => exact z
  | ok fl =>
    cases fl with
    | ret ob =>
      obtain ⟨b, rfl, rfl⟩ := z
      have y1 : (s.heap.push (Ff b)).get? s.heap.objs.size = some (Ff b) := Heap.get?_push_size _ rfl
      have y2 : Shared.TypeIs { s with heap := s.heap.push (Ff b) } (.ref s.heap.objs.size) "set" := ⟨_, y1, rfl⟩
      have y3 := PySem.F.called_set.init.lookup
      have y4 := PySem.F.called_set.init.bind (.ref s.heap.objs.size)
      repeat (any_goals (first | assumption | wp_step))
      refine codeAny_mono (codeAny_call_builtin (R := wants (fun r s2 => r = .none ∧ ∃ h1 tk, s2 = { s with heap := h1, toks := tk } ∧
          h1.SetOf kn s.heap.objs.size (fun x => decide (x ∈ met f its.size)) (met f its.size).length ∧ (∀ b o, b < s.heap.objs.size → s.heap.get? b = some o → h1.get? b = some o)) Er) PySem.F.called_set.init.plain PySem.F.entry_set_init (check_set_init_1 y2 ?_)) fun r2 s2 z2 => ?_
      · obtain ⟨ol, q1, q2, nl, q3⟩ := hl
        obtain ⟨oc, od, oa, os⟩ := ol
        simp only at q2 q3
        subst q2; subst q3
        have q4 : (s.heap.push (Ff b)).get? l = some { cls := .type "list", dict := od, data := .seq its nl, slots := os } := Heap.get?_push_of_some _ q1
        have u1 := PySem.F.sub_list_set
        have u2 := PySem.F.sub_list_frozenset
        have u3 : (Value.type "list" == Value.type "dict") = false := by decide
        have u4 : (s.heap.push (Ff b)).IsList l its := ⟨_, q4, rfl, nl, rfl⟩
        unfold Builtin.«set.__init__» noKeywords Builtin.Frozenset.updateFrom
        generalize gP : pyIter = PI
        wp_walk
        subst gP
        refine wpAny_pyIter_list u4 (wpAny_bind (wpAny_runValue ?_))
        have lS : l < s.heap.objs.size := Heap.lt_size q1
        have n1 : l ≠ (s.heap.push (Ff b)).objs.size := by rw [Heap.size_push]; exact Nat.ne_of_lt (Nat.lt_succ_of_lt lS)
        have n2 : s.heap.objs.size ∉ [(s.heap.push (Ff b)).objs.size, l] := by
          rw [Heap.size_push]
          simp only [List.mem_cons, List.not_mem_nil, or_false, not_or]
          exact ⟨Nat.ne_of_lt (Nat.lt_succ_self _), Nat.ne_of_gt lS⟩
        refine Yy (kn := kn) ((Walks.list (by simp [hh]) _ l n1 its).toS) s.heap.objs.size n2 f hv hb (its.size - 0) 0 _ (by omega) (Nat.zero_le _) ⟨⟨_, Heap.get?_push_size _ rfl, rfl, rfl⟩, (u4.push _)⟩ ?start ?fin
        case start => exact (PyProof.Rows.setObjOf_fresh (knd := kn) b).setOf (Heap.get?_push_of_some _ y1) (by unfold scanBound; omega)
        case fin =>
          intro s3 mv hT
          obtain ⟨h3, g3, d3, t3, o3⟩ := s3
          have w1 : g3 = s.gens := mv.gens
          have w2 : d3 = s.drawn := mv.drawn
          have w3 : o3 = s.os := mv.os
          subst w1; subst w2; subst w3
          change wpAny _ _ _ _ _ _
          refine wpAny_pure ?_
          change wpAny _ _ (ret Value.none) _ _ _
          refine wpAny_pure ⟨rfl, h3, t3, rfl, hT, fun b2 o hb2 e => ?_⟩
          refine mv.heap b2 o ?_ (Heap.get?_push_of_some _ (Heap.get?_push_of_some _ e))
          simp only [List.mem_cons, List.not_mem_nil, or_false, not_or]
          exact ⟨Nat.ne_of_lt hb2, by rw [Heap.size_push]; exact Nat.ne_of_lt (Nat.lt_succ_of_lt hb2)⟩
      · cases r2 with
        | error e => exact z2
        | ok fl2 =>
          cases fl2 with
          | ret r =>
            obtain ⟨rfl, h1, tk, rfl, hT, hk⟩ := z2
            repeat (any_goals (first | assumption | wp_step))
            exact hq _ _ hT hk
          | _ => exact z2.elim
    | _ => exact z.elim
end
end DD
namespace DD
open PySem PySem.Spec L2
open PyProof.Rows hiding St RelV
variable {g : G} {X : Cx} {pos apos cpos p2 : Pos} {F : Nat} {a b c : Expr} {a' b' c' : E}
abbrev kAt (ks : List Key) (i : Nat) : Key := (ks[i]?).getD (.inl 0)
def tLS (K : PySem.W.Frag) (te : TE) : TE := fun sg H Q => te sg H fun x H1 => ∃ a ks, x = .ref a ∧ SqL K H1 a (ks.map kV) ∧ ks.length < 4000 ∧ Q (.int ((met (kAt ks) ks.length).length : Nat)) H1
theorem Yz {k : Key} {u : Value} (r : RelV (kV k) u) : u.scannable = true := by
 cases k with
 | inl i => obtain ⟨t, e⟩ := (show ∃ t, u = Value.int i t from r); subst e; rfl
 | inr x => obtain ⟨t, e⟩ := (show ∃ t, u = Value.str x t from r); subst e; rfl
theorem za {ks : List Key} : ∀ {us : List Value}, Vals (ks.map kV) us → ∀ (i : Nat) (u : Value), us[i]? = some u → RelV (kV (kAt ks i)) u := by
 induction ks with
 | nil => intro us h i u e; rw [List.map_nil] at h; cases h; simp at e
 | cons k r ih =>
  intro us h i u e
  rw [List.map_cons] at h
  cases h with
  | cons p t =>
   cases i with
   | zero => simp only [List.getElem?_cons_zero, Option.some.injEq] at e; subst e; exact p
   | succ i => simp only [List.getElem?_cons_succ] at e; have := ih t i u e; simpa [kAt] using this
theorem Za {e : Expr} {te : TE} {n1 n2 : Pos} (hc : X.calm = true) (hg : Gl X "len") (hm : X.mg "len" = none) (hg2 : Gl X "set") (hm2 : X.mg "set" = none) (ha : PE X e te)
    (he : starEach [.Call (.Name "set" n2) [e] [] cpos] X.env = (false, eval (.Call (.Name "set" n2) [e] [] cpos) X.env) :: starEach [] X.env := by rfl) (hpl : (backTo pos (starEach [] X.env)).any (·.1) = false := by rfl)
    (he2 : starEach [e] X.env = (false, eval e X.env) :: starEach [] X.env := by rfl) (hpl2 : (backTo cpos (starEach [] X.env)).any (·.1) = false := by rfl) :
    PE X (.Call (.Name "len" n1) [.Call (.Name "set" n2) [e] [] cpos] [] pos) (tLS X.K te) := by
  intro pins s sg H Q I h
  refine wpAny_Call_Name_kw (fk I hg hm rfl ?_ (by decide) (by decide))
  refine PyProof.Rows.callWith_builtin1 ?_ he hpl
  rw [he]
  show wpAny _ _ (spliced ((false, eval (.Call (.Name "set" n2) [e] [] cpos) X.env) :: backTo pos (starEach [] X.env))) _ _ s
  refine Calls.spliced_cons ?_
  refine wpAny_Call_Name_kw (fk I hg2 hm2 rfl ?_ (by decide) (by decide))
  refine PyProof.Rows.callWith_type1 ?_ he2 hpl2
  rw [he2]
  show wpAny _ _ (spliced ((false, eval e X.env) :: backTo cpos (starEach [] X.env))) _ _ s
  refine Calls.spliced_cons (thn (ha pins s sg H _ I h) fun u s1 ⟨x, H1, I1, rx, q, ks, ex, hx, hz, q1⟩ => Calls.spliced_nil ?_)
  subst ex
  cases rx
  obtain ⟨its, r, ht, _⟩ := I1.list hx
  have hlen : its.length = ks.length := by have := r.length; simpa using this.symm
  have hsz : its.toArray.size = ks.length := by rw [List.size_toArray]; exact hlen
  refine yz (kn := Ca X.prog X.w) (f := kAt ks) (I1.ok.hd hc) ht.isList (fun i v e => ?_) (by rw [hsz]; unfold scanBound; omega) fun h1 tk hS hk => Calls.spliced_nil ?_
  · have e : its[i]? = some v := by simpa using e
    have rk := za r i v e
    exact ⟨fm rk, Yz rk⟩
  · rw [hsz] at hS
    obtain ⟨o, es, ep, t, ho, hex, hd, hel, hmem, hb, hf, hn⟩ := hS
    refine call_len_set ho hex hd hf (by unfold scanBound at hb; omega) ?_
    refine ⟨.int ((met (kAt ks) ks.length).length : Nat), H1, I1.kept (t' := tk + 1 + 1) fun b ob z => hk b ob (Heap.lt_size z) z, ⟨_, by rw [hn]⟩, q1⟩
def Hy {α : Type} [DecidableEq α] (acc : List α) (x : α) : List α := if x ∈ acc then acc else acc ++ [x]
theorem qa {ks : List Key} : ∀ i, i ≤ ks.length → met (kAt ks) i = (ks.take i).foldl Hy []
 | 0, _ => by simp [met]
 | i + 1, h => by
  have ih := qa (ks := ks) i (by omega)
  have hi : i < ks.length := by omega
  rw [List.take_succ, List.getElem?_eq_getElem hi]
  simp only [Option.toList, List.foldl_append, List.foldl_cons, List.foldl_nil, ← ih]
  have hk : kAt ks i = ks[i] := by simp [kAt, List.getElem?_eq_getElem hi]
  simp only [met, Hy]
  rw [hk]
theorem Qa {acc : List D} {ak : List Key} (h : Paired (fun d k => kD d = some k) acc ak) {d : D} {k : Key} (e : kD d = some k) : d ∈ acc ↔ k ∈ ak := by
 induction h with
 | nil => simp
 | @cons x y t r p q ih =>
  simp only [List.mem_cons, ih]
  constructor
  · rintro (z | z)
    · subst z; rw [e] at p; cases p; exact .inl rfl
    · exact .inr z
  · rintro (z | z)
    · subst z; exact .inl (Jb e p)
    · exact .inr z
theorem zb {acc : List D} {ak : List Key} (h : Paired (fun d k => kD d = some k) acc ak) {d : D} {k : Key} (e : kD d = some k) : Paired (fun d k => kD d = some k) (acc ++ [d]) (ak ++ [k]) := by
 induction h with
 | nil => exact .cons e .nil
 | cons p q ih => exact .cons p ih
theorem Zb {xs : List D} {ks : List Key} (h : Paired (fun d k => kD d = some k) xs ks) : ∀ {acc : List D} {ak : List Key}, Paired (fun d k => kD d = some k) acc ak → Paired (fun d k => kD d = some k) (xs.foldl Hy acc) (ks.foldl Hy ak) := by
 induction h with
 | nil => intro acc ak h; exact h
 | @cons x y t r p q ih =>
  intro acc ak h
  simp only [List.foldl_cons]
  refine ih ?_
  unfold Hy
  by_cases z : x ∈ acc
  · rw [if_pos z, if_pos ((Qa h p).mp z)]; exact h
  · rw [if_neg z, if_neg (fun z2 => z ((Qa h p).mpr z2))]; exact zb h p
theorem qb {acc : List D} {ak : List Key} (h : Paired (fun d k => kD d = some k) acc ak) : acc.length = ak.length := by
 induction h with
 | nil => rfl
 | cons p q ih => simp [ih]
theorem zc {xs : List D} {ks : List Key} (h : Paired (fun d k => kD d = some k) xs ks) : (Iw xs).length = (met (kAt ks) ks.length).length := by
 rw [qa _ (Nat.le_refl _), List.take_length]
 exact qb (Zb h .nil)
theorem Qb : ∀ {xs : List D} {rho : List Addr} {H : Hp} {vs : List V}, xs.all Bs = true → g.RepL rho H xs vs → ∃ ks : List Key, Paired (fun d k => kD d = some k) xs ks ∧ vs = ks.map kV
 | [], rho, H, vs, _, h => by simp only [G.RepL, RepL] at h; subst h; exact ⟨[], .nil, rfl⟩
 | d :: r, rho, H, vs, hk, h => by
  simp only [List.all_cons, Bool.and_eq_true] at hk
  simp only [G.RepL, RepL] at h
  obtain ⟨v, t, rfl, rd, q⟩ := h
  obtain ⟨k, ek⟩ := Ht hk.1
  obtain ⟨ks, p, rfl⟩ := Qb hk.2 q
  exact ⟨k :: ks, .cons ek p, by rw [List.map_cons, Hu rd ek]⟩
theorem Zc {e : Expr} {e' : E} {n1 n2 : Pos} (hK : X.K = g.K) (hc : X.calm = true) (hg : Gl X "len") (hm : X.mg "len" = none) (hg2 : Gl X "set") (hm2 : X.mg "set" = none) (ha : Sd g X e e')
    (he : starEach [.Call (.Name "set" n2) [e] [] cpos] X.env = (false, eval (.Call (.Name "set" n2) [e] [] cpos) X.env) :: starEach [] X.env := by rfl) (hpl : (backTo pos (starEach [] X.env)).any (·.1) = false := by rfl)
    (he2 : starEach [e] X.env = (false, eval e X.env) :: starEach [] X.env := by rfl) (hpl2 : (backTo cpos (starEach [] X.env)).any (·.1) = false := by rfl) :
    Sd g X (.Call (.Name "len" n1) [.Call (.Name "set" n2) [e] [] cpos] [] pos) (.bt .lenSetB (.cons e' .nil)) := Ay (Za hc hg hm hg2 hm2 ha he hpl he2 hpl2) fun sg H Q q => by
  obtain ⟨rho, st, env, s, n, q⟩ := q
  simp only [aa, As, bc, bind_assoc] at q
  refine step s n q fun d st1 x H1 r1 k1 s1 n1 rp q1 => ?_
  cases d with
  | loc j =>
    simp only [btD] at q1
    split at q1
    · rename_i xs ed
      split at q1
      · rename_i hz
        obtain ⟨p, vs, h1, sq, rl⟩ := Dg s1 ed
        obtain ⟨p2, h2, rfl⟩ := bb.mp rp
        rw [h1] at h2; cases h2
        obtain ⟨ks, pk, rfl⟩ := Qb hz.1 rl
        refine ⟨p, ks, rfl, by rw [hK]; exact sq, by rw [← qb pk]; exact hz.2, ?_⟩
        rw [zc pk] at q1
        exact (show Ak g rho H Q (.int _) st1 from q1) _ H1 r1 k1 s1 (Aq.mpr rfl)
      · exact q1.elim
    · exact q1.elim
  | _ => exact q1.elim
end DD
namespace DD
open PySem PySem.Spec L2
open PyProof.Rows hiding St RelV
section
variable {pr : Program} {w : World} {A : Around} {Er : Value → Shared → Prop}
end
variable {g : G} {X : Cx} {pos apos cpos p2 : Pos} {F : Nat} {a b c : Expr} {a' b' c' : E}
theorem Fv {x : Str} {d : D} {v : V} {u : Value} (hg : Gl X x) (hm : X.mg x = some u) (r : RelV v u) (hr : ∀ rho H, g.Rep rho H d v) (hd : (x == ("__debug__" : Str)) = false := by decide) : Sd g X (.Name x pos) (.cst d) :=
 Ay (Il hg hm r hd) fun sg H Q q => by
  obtain ⟨rho, st, env, s, n, q⟩ := q
  simp only [aa] at q
  exact (show Ak g rho H Q d st from q) _ H rho (.refl _ _) s (hr rho H)
end DD
namespace DD
open PySem PySem.Spec L2
open PyProof.Rows hiding St RelV
variable {g : G} {X : Cx} {pos : Pos} {F : Nat}
end DD
namespace DD
open PySem PySem.Spec L2
open PyProof.Rows hiding St
theorem qc {K : PySem.W.Frag} {rho : List Addr} {H : Hp} : ∀ ns : List Int, RepL K rho H (ns.map D.int) (ns.map V.int)
 | [] => by simp [RepL]
 | n :: r => by simp only [List.map_cons, RepL]; exact ⟨_, _, rfl, by simp [Rep], qc r⟩
theorem zd {K : PySem.W.Frag} {cls : CW} {run : List D → Sto → Res D} {ns : List Int} {st : Sto} (e : run [.loc 0] [.frz (ns.map D.int)] = .ok (.bl true) st)
    (H : Hp) (a : Addr) (hO : Iv H) (hS : SqL K H a (ns.map V.int)) : spD K cls 1 run [.ref a] H (fun v _ => v = .bl true) fun _ _ _ => False := by
  refine ⟨rfl, [a], [.frz (ns.map D.int)], [.loc 0], ⟨rfl, ?_, ?_⟩, ?_, ?_⟩
  · intro n k b c d h1 h2 h3 h4 t1 t2
    cases n with
    | zero => cases h3; cases t1
    | succ n => cases h3
  · intro n b c h1 h2
    cases n with
    | zero =>
      cases h1; cases h2
      refine ⟨ns.map V.int, ?_, qc ns⟩
      rcases hS with h | h
      · rcases h with h | ⟨o, h⟩
        · rcases hO _ with z | ⟨o, xs, z⟩
          · rw [h] at z; cases z
          · rw [h] at z; cases z
        · exact .inl ⟨o, h⟩
      · exact .inr h
    | succ n => cases h1
  · simp [RepL, Rep]
  · rw [e]
    intro v H' rho' _ _ r
    simpa [Rep] using r
theorem Zd {P : Program} {w : World} (H : Hp) (s : Shared) (e : Value) (s' : Shared) (h : CXd P w [] H s (fun _ _ _ => False) e s') : False := by
 obtain ⟨_, _, _, _, _, _, _, z⟩ := h
 exact z
theorem sv {g : G} {X : Cx} {i : Nat} {x : Str} {pos : Pos} (h : X.env.scope.names.lookup x = some NameKind.local) (hN : X.N[i]? = some x := by rfl) (hd : (x == ("__debug__" : Str)) = false := by decide) (hcd : (x == ("__classdict__" : Str)) = false := by decide) : Sd g X (.Name x pos) (.var i) := Cf i (pv i hN (Or.inl h) hd hcd)
theorem Ai {g : G} : ∀ rho H, g.RepL rho H [] [] := fun _ _ => by simp [DD.RepL]
end DD
namespace DD
open PySem PySem.Spec L2
open PyProof.Rows hiding St
variable {g : G} {X : Cx} {pos : Pos}
end DD
namespace DD
open PySem L2
section
variable {t : Nat → Ty → Option Bool} {call : Or} {F : Nat} {env : DD.Env} {st : Sto}
theorem ze : An t call F .nil env st = .ok (.next env) st := by simp only [An]
theorem Ze {s : S} {r : Ss} : An t call F (.cons s r) env st = (Al t call F s env st).bind fun f st => match f with
      | .next env' => An t call F r env' st
      | f => .ok f st := by simp only [An] <;> rfl
theorem zf {i : Nat} {e : E} : Al t call F (.set i e) env st = (aa t call e env st).bind fun d st => if i < env.length then .ok (.next (env.set i (some d))) st else .bad := by simp only [Al]
theorem Zf {is : List Nat} {e : E} : Al t call F (.unp is e) env st = (aa t call e env st).bind fun d st => match store is false d env with | some env' => .ok (.next env') st | none => .bad := by simp only [Al] <;> rfl
theorem zg {i j : Nat} {a b : E} : Al t call F (.par i j a b) env st = (aa t call a env st).bind fun x st => (aa t call b env st).bind fun y st => if i < env.length ∧ j < env.length then .ok (.next ((env.set i (some x)).set j (some y))) st else .bad := by simp only [Al]
theorem Zg {c : E} {a b : Ss} : Al t call F (.ifS c a b) env st = (Aj t call c env st).bind fun x st => if x then An t call F a env st else An t call F b env st := by simp only [Al]
theorem zh {e : E} : Al t call F (.ret e) env st = (aa t call e env st).bind fun d st => .ok (.ret d) st := by simp only [Al]
theorem Zh {e : E} : Al t call F (.ex e) env st = (aa t call e env st).bind fun d st => .ok (.next env) st := by simp only [Al]
theorem zi {c : E} {b : Ss} : Al t call F (.whileS c b) env st = whileLoop (Aj t call c) (An t call F b) F env st := by simp only [Al]
end
section
variable {t : Nat → Ty → Option Bool} {call : Or} {F : Nat} {env : DD.Env} {st : Sto}
def turn (t : Nat → Ty → Option Bool) (call : Or) (F : Nat) (tg : List Nat) (one : Bool) (b : Ss) (d : D) (env : DD.Env) (st : Sto) : Res Fl := match store tg one d env with | some env' => An t call F b env' st | none => .bad
theorem Zi {tg : List Nat} {one : Bool} {b : Ss} {d : D} {env' : DD.Env} (h : store tg one d env = some env') : turn t call F tg one b d env st = An t call F b env' st := by unfold turn; rw [h]
theorem zj {tg : List Nat} {one k : Bool} {it : E} {b : Ss} : Al t call F (.forS tg one k it b) env st = (aa t call it env st).bind fun d st => match Dn k st d with
      | some (xs, p) => forLoop xs p (turn t call F tg one b) xs env st
      | none => .bad := by simp only [Al] <;> rfl
theorem Zj {tg : List Nat} {es : Es} {b : Ss} : Al t call F (.forR tg es b) env st = (As t call es env st).bind fun ds st => match fb ds with
      | some xs => forLoop xs none (turn t call F tg true b) xs env st
      | none => .bad := by simp only [Al] <;> rfl
end
theorem Qc {all : List D} {p : Option Nat} {body : D → DD.Env → Sto → Res Fl} {J : Nat → DD.Env → Sto → Prop} (hs : ∀ i env st, J i env st → stays st p all = true) :
    ∀ (xs : List D) (i : Nat) (env : DD.Env) (st : Sto), J i env st → (∀ (j : Nat) (d : D), xs[j]? = some d → ∀ env st, J (i + j) env st → ∃ env' st', body d env st = .ok (.next env') st' ∧ J (i + j + 1) env' st') →
    ∃ env' st', forLoop all p body xs env st = .ok (.next env') st' ∧ J (i + xs.length) env' st'
  | [], i, env, st, h, _ => ⟨env, st, by simp only [forLoop]; rw [if_pos (hs _ _ _ h)], h⟩
  | d :: r, i, env, st, h, ht => by
    obtain ⟨e1, s1, h1, h2⟩ := ht 0 d rfl env st h
    obtain ⟨e2, s2, h3, h4⟩ := Qc hs r (i + 1) e1 s1 h2 fun j x hx env st hj => by
      have := ht (j + 1) x (by simpa using hx) env st (by rwa [show i + (j + 1) = i + 1 + j by omega])
      rwa [show i + (j + 1) + 1 = i + 1 + j + 1 by omega] at this
    refine ⟨e2, s2, ?_, by rwa [show i + (d :: r).length = i + 1 + r.length by simp; omega]⟩
    simp only [forLoop]
    rw [if_pos (hs _ _ _ h), h1, bc]
    exact h3
theorem qd {st : Sto} {n0 : Nat} {c : Cell} (h : st[n0]? = some c) (d : Cell) : (st.set n0 d)[n0]? = some d := by
 have : n0 < st.length := (List.getElem?_eq_some_iff.mp h).1
 simp [this]
def Qd (t : Nat → Ty → Option Bool) (call : Or) (tg : List Nat) (one : Bool) (env : DD.Env) (ifs : Es) (elt : E) (d : D) (st : Sto) : Res (Option D) := match store tg one d env with
 | some env' => (Bo t call ifs env' st).bind fun b st => if b then (aa t call elt env' st).bind fun y st => .ok (some y) st else .ok none st
 | none => .bad
theorem zk {t : Nat → Ty → Option Bool} {call : Or} {env : DD.Env} {st st1 : Sto} {k nl : Nat} {one : Bool} {tg fv : List Nat} {it elt : E} {ifs : Es} {d : D} {xs : List D} {p : Option Nat} (h : aa t call it env st = .ok d st1) (hi : Cp k st1 d = some (xs, p)) :
    aa t call (.comp k one nl tg fv it ifs elt) env st = (compLoop xs p st1.length (Qd t call tg one (bo nl fv env) ifs elt) xs (st1 ++ [.lst []])).bind fun _ st' => .ok (.loc st1.length) st' := by
  rw [aa, h]
  simp only [bc, hi]
  rfl
theorem Lp {all : List D} {p : Option Nat} {n0 : Nat} {body : D → Sto → Res (Option D)} {f : D → Option D} {J : Sto → Prop} (hs : ∀ st, J st → stays st p all = true) (hset : ∀ st ys, J st → J (st.set n0 (.lst ys))) :
    ∀ (xs ys : List D) (st : Sto), J st → st[n0]? = some (.lst ys) → ys.length + xs.length ≤ sizeLine →
    (∀ d ∈ xs, ∀ st ys, J st → st[n0]? = some (.lst ys) → ∃ st', body d st = .ok (f d) st' ∧ J st' ∧ st'[n0]? = some (.lst ys)) →
    ∃ st', compLoop all p n0 body xs st = .ok () st' ∧ J st' ∧ st'[n0]? = some (.lst (ys ++ xs.filterMap f))
  | [], ys, st, h, hy, _, _ => ⟨st, by simp only [compLoop]; rw [if_pos (hs _ h)], h, by simpa using hy⟩
  | d :: r, ys, st, h, hy, hl, hb => by
    obtain ⟨s1, e1, j1, y1⟩ := hb d List.mem_cons_self st ys h hy
    simp only [compLoop]
    rw [if_pos (hs _ h), e1]
    have hl2 : ys.length < sizeLine := by simp at hl; omega
    cases hf : f d with
    | none =>
      obtain ⟨s2, e2, j2, y2⟩ := Lp hs hset r ys s1 j1 y1 (by simp at hl ⊢; omega) fun x hx => hb x (List.mem_cons_of_mem _ hx)
      exact ⟨s2, e2, j2, by rw [List.filterMap_cons, hf]; exact y2⟩
    | some y =>
      obtain ⟨s2, e2, j2, y2⟩ := Lp hs hset r (ys ++ [y]) (s1.set n0 (.lst (ys ++ [y]))) (hset _ _ j1) (qd y1 _) (by simp at hl ⊢; omega) fun x hx => hb x (List.mem_cons_of_mem _ hx)
      refine ⟨s2, ?_, j2, by rw [List.filterMap_cons, hf]; simpa using y2⟩
      simp only [y1, hl2, if_true]
      exact e2
def Fr (st st' : Sto) : Prop := ∀ j, j < st.length → st'[j]? = st[j]?
theorem Fr.app {st : Sto} (m : Sto) : Fr st (st ++ m) := fun j h => List.getElem?_append_left h
theorem Fr.at {st st' : Sto} (h : Fr st st') {j : Nat} {c : Cell} (e : st[j]? = some c) : st'[j]? = some c := by rw [h j (List.getElem?_eq_some_iff.mp e).1]; exact e
theorem Fr.len {st st' : Sto} (h : Fr st st') : st.length ≤ st'.length := by
 cases Nat.lt_or_ge st'.length st.length with
 | inr g => exact g
 | inl g =>
  have h1 := h st'.length g
  rw [List.getElem?_eq_none (Nat.le_refl _), List.getElem?_eq_getElem g] at h1
  cases h1
theorem Fr.trans {a b c : Sto} (h : Fr a b) (k : Fr b c) : Fr a c := fun j hj => (k j (Nat.lt_of_lt_of_le hj h.len)).trans (h j hj)
theorem Fr.set {a b : Sto} (h : Fr a b) {n : Nat} (hn : a.length ≤ n) (c : Cell) : Fr a (b.set n c) := fun j hj => by
 rw [List.getElem?_set_ne (by omega)]; exact h j hj
theorem Fr.lst {st st' : Sto} (h : Fr st st') {n : Nat} {xs : List D} (e : Am st n = some xs) : Am st' n = some xs := by
 unfold Am at e ⊢
 cases z : st[n]? with
 | none => rw [z] at e; cases e
 | some c => rw [h.at z]; rw [z] at e; exact e
section
variable {st : Sto}
theorem Zk {i j : Int} : opD .add (.int i) (.int j) st = .ok (.int (i + j)) st := by simp only [opD]
theorem zl {i j : Int} : opD .sub (.int i) (.int j) st = .ok (.int (i - j)) st := by simp only [opD]
theorem qe {i j : Int} (h : Eu i j) : opD .mul (.int i) (.int j) st = .ok (.int (i * j)) st := by simp only [opD]; rw [if_pos h]
theorem Zl {i j : Int} (h : Dx j) : opD .fdiv (.int i) (.int j) st = .ok (.int (i.fdiv j)) st := by simp only [opD]; rw [if_pos h]
theorem zm {i j : Int} (h : j ≠ 0) : opD .mod (.int i) (.int j) st = .ok (.int (i.fmod j)) st := by simp only [opD]; rw [if_pos h]
theorem Zm {i j : Int} (h : Ho i j) : opD .pow (.int i) (.int j) st = .ok (.int (i ^ j.toNat)) st := by simp only [opD]; rw [if_pos h]
theorem Zn {n m : Nat} {xs ys : List D} (hn : st[n]? = some (.lst xs)) (hm : st[m]? = some (.lst ys)) (h : xs.length + ys.length ≤ sizeLine) : opD .add (.loc n) (.loc m) st = .ok (.loc st.length) (st ++ [.lst (xs ++ ys)]) := by
 simp only [opD, hn, hm]; rw [if_pos h]
theorem zo {i j : Int} : cmD .eq (.int i) (.int j) st = .ok (.bl (decide (i = j))) st := by simp [cmD, eqV, Ap, PyData.eqv] <;> rfl
theorem Zo {i j : Int} : cmD .ne (.int i) (.int j) st = .ok (.bl (!decide (i = j))) st := by simp [cmD, eqV, Ap, PyData.eqv] <;> rfl
theorem zp {i j : Int} : cmD .lt (.int i) (.int j) st = .ok (.bl (decide (i < j))) st := by simp only [cmD]
theorem Zp {i j : Int} : cmD .le (.int i) (.int j) st = .ok (.bl (decide (i ≤ j))) st := by simp only [cmD]
theorem zq {i j : Int} : cmD .gt (.int i) (.int j) st = .ok (.bl (decide (j < i))) st := by simp only [cmD]
theorem Zq {i j : Int} : cmD .ge (.int i) (.int j) st = .ok (.bl (decide (j ≤ i))) st := by simp only [cmD]
theorem zr {b : Bool} : btD .intB [.bl b] st = .ok (.int (if b then 1 else 0)) st := by simp only [btD]
theorem Zr {xs : List D} : btD .lenB [.tup xs] st = .ok (.int xs.length) st := by simp only [btD]
theorem Zs {n : Nat} {xs : List D} (h : Am st n = some xs) : btD .lenB [.loc n] st = .ok (.int xs.length) st := by simp only [btD, h]
theorem zt {i : Int} {xs : List D} {d : D} (e : L2.atI xs i = some d) : ixD (.tup xs) (.int i) st = .ok d st := by simp only [ixD, ixS, Dw, atD, e]
theorem lq {n : Nat} {xs : List D} (h : Am st n = some xs) : Ba st n = none ∧ bh st n = none ∧ gv st n = none := by
 unfold Am at h; unfold Ba bh gv
 cases z : st[n]? with
 | none => exact ⟨rfl, rfl, rfl⟩
 | some c => rw [z] at h; cases c <;> first | exact ⟨rfl, rfl, rfl⟩ | cases h
theorem Zt {n : Nat} {i : Int} {xs : List D} {d : D} (h : Am st n = some xs) (e : L2.atI xs i = some d) : ixD (.loc n) (.int i) st = .ok d st := by
 simp only [ixD, (lq h).1, (lq h).2.1, (lq h).2.2, ixS, Dw, h, atD, e]
end
section
variable {t : Nat → Ty → Option Bool} {call : Or} {env : DD.Env} {st : Sto}
theorem zu {i : Nat} : aa t call (.var i) env st = match Cd env i with | some d => .ok d st | none => .bad := by simp only [aa] <;> rfl
theorem Zu {i : Nat} {d : D} (h : Cd env i = some d) : aa t call (.var i) env st = .ok d st := by rw [zu, h]
theorem Zv {d : D} : aa t call (.cst d) env st = .ok d st := by simp only [aa]
end
theorem gg {st m : Sto} {k : Nat} : (st ++ m)[st.length + k]? = m[k]? := by
 rw [List.getElem?_append_right (by omega)]; congr 1; omega
theorem Gy {st : Sto} : ∀ {n m : Nat} {d : D}, okN n d = true → n ≤ m → Ap st m d = some (pyN n d)
 | n, m, .int i, _, _ => by cases m <;> cases n <;> simp [Ap, pyN]
 | n, m, .str x, h, _ => by
  have h2 : PyData.canLay0 (.str x) = true := by cases n <;> simpa [okN] using h
  cases m <;> cases n <;> simp [Ap, pyN, h2]
 | 0, m, .tup ds, h, _ => by simp [okN] at h
 | n + 1, 0, .tup ds, _, h => by omega
 | n + 1, m + 1, .tup ds, h, hm => by
  have all : ∀ ds : List D, ds.all (okN n) = true → Bn (ds.map (Ap st m)) = some (ds.map (pyN n)) := by
   intro ds
   induction ds with
   | nil => intro _ <;> rfl
   | cons d r ih =>
    intro h
    simp only [List.all_cons, Bool.and_eq_true] at h
    simp only [List.map_cons, Gy h.1 (by omega : n ≤ m), Bn, ih h.2, Option.map_some]
  have h : ds.all (okN n) = true := by simpa [okN] using h
  simp only [Ap, all ds h, Option.map_some, pyN]
 | n, m, .non, h, _ => by cases n <;> simp [okN] at h
 | n, m, .bl b, h, _ => by cases n <;> simp [okN] at h
 | n, m, .loc b, h, _ => by cases n <;> simp [okN] at h
theorem Lq : ∀ {n : Nat} {x y : D}, okN n x = true → okN n y = true → PyData.eqv (pyN n x) (pyN n y) = decide (x = y) := by
 intro n
 induction n with
 | zero =>
  intro x y h1 h2
  cases x <;> simp [okN] at h1 <;> cases y <;> simp [okN] at h2 <;> simp [pyN, PyData.eqv] <;> (first | rfl | exact Bool.beq_eq_decide_eq _ _)
 | succ n ih =>
  intro x y h1 h2
  cases x with
  | int i => cases y <;> simp [okN] at h2 <;> simp [pyN, PyData.eqv] <;> rfl
  | str i => cases y <;> simp [okN] at h2 <;> simp [pyN, PyData.eqv] <;> rfl
  | tup ds =>
   cases y with
   | int i => simp [pyN, PyData.eqv]
   | str i => simp [pyN, PyData.eqv]
   | tup es =>
    have all : ∀ ds es : List D, ds.all (okN n) = true → es.all (okN n) = true → PyData.eqvAll (ds.map (pyN n)) (es.map (pyN n)) = decide (ds = es) := by
     intro ds
     induction ds with
     | nil => intro es _ _; cases es <;> simp [PyData.eqvAll]
     | cons d r ih2 =>
      intro es h1 h2
      cases es with
      | nil => simp [PyData.eqvAll]
      | cons e t =>
       simp only [List.all_cons, Bool.and_eq_true] at h1 h2
       simp only [List.map_cons, PyData.eqvAll, ih h1.1 h2.1, ih2 t h1.2 h2.2, List.cons.injEq, Bool.decide_and]
    simp only [pyN, PyData.eqv, all ds es (by simpa [okN] using h1) (by simpa [okN] using h2)]
    simp
   | _ => simp [okN] at h2
  | _ => simp [okN] at h1
theorem Qe {n : Nat} : ∀ ds es : List D, ds.all (okN n) = true → es.all (okN n) = true → PyData.eqvAll (ds.map (pyN n)) (es.map (pyN n)) = decide (ds = es)
 | [], es, _, _ => by cases es <;> simp [PyData.eqvAll]
 | d :: r, [], _, _ => by simp [PyData.eqvAll]
 | d :: r, e :: t, h1, h2 => by
  simp only [List.all_cons, Bool.and_eq_true] at h1 h2
  simp only [List.map_cons, PyData.eqvAll, Lq h1.1 h2.1, Qe r t h1.2 h2.2, List.cons.injEq, Bool.decide_and]
theorem lr {st : Sto} {n m : Nat} (hm : n ≤ m) : ∀ ds : List D, ds.all (okN n) = true → Bn (ds.map (Ap st m)) = some (ds.map (pyN n))
 | [], _ => rfl
 | d :: r, h => by
  simp only [List.all_cons, Bool.and_eq_true] at h
  simp only [List.map_cons, Gy h.1 hm, Bn, lr hm r h.2, Option.map_some]
section
variable {st : Sto} {n : Nat} {a b : D} {xs ys : List D}
theorem zw (ha : okN 40 a = true) (hb : okN 40 b = true) : cmD .eq a b st = .ok (.bl (decide (a = b))) st := by
 simp only [cmD, eqV, Gy ha (Nat.le_refl _), Gy hb (Nat.le_refl _), Lq ha hb]
theorem Zw {l m : Nat} (h : Am st l = some xs) (k : Am st m = some ys) (hx : xs.all (okN 39) = true) (hy : ys.all (okN 39) = true) : eqV st (.loc l) (.loc m) = some (decide (xs = ys)) := by
 simp only [eqV, Ap, h, k, Option.bind_some, lr (Nat.le_refl 39) xs hx, lr (Nat.le_refl 39) ys hy, Option.map_some, PyData.eqv, Qe xs ys hx hy]
theorem zx {l m : Nat} (h : Am st l = some xs) (k : Am st m = some ys) (hx : xs.all (okN 39) = true) (hy : ys.all (okN 39) = true) : cmD .eq (.loc l) (.loc m) st = .ok (.bl (decide (xs = ys))) st := by
 simp only [cmD, Zw h k hx hy]
end
theorem Ec {st : Sto} {n : Nat} {xs : List D} (h : st[n]? = some (.lst xs)) : Am st n = some xs := by simp only [Am, h]
theorem Dj : ∀ {n m : Nat} {d : D}, n ≤ m → okN n d = true → okN m d = true
 | _, _, .int _, _, _ => by simp [okN]
 | n, m, .str x, _, h => by cases n <;> cases m <;> simpa [okN] using h
 | 0, _, .tup _, _, h => by simp [okN] at h
 | n + 1, 0, .tup ds, hm, _ => by omega
 | n + 1, m + 1, .tup ds, hm, h => by
  simp only [okN, List.all_eq_true] at h ⊢
  exact fun x hx => Dj (by omega) (h x hx)
 | n, _, .non, _, h => by cases n <;> simp [okN] at h
 | n, _, .bl _, _, h => by cases n <;> simp [okN] at h
 | n, _, .loc _, _, h => by cases n <;> simp [okN] at h
theorem Fr.keep {a b : Sto} (h : Fr a b) {n : Nat} {c : Cell} (e : a[n]? = some c) : b[n]? = some c := h.at e
theorem Zx {st0 : Sto} {all xs : List D} {p : Option Nat} {body : D → Sto → Res (Option D)} {f : D → Option D} (hl : xs.length ≤ sizeLine) (hs : ∀ s, Fr st0 s → stays s p all = true)
    (hb : ∀ d ∈ xs, ∀ s, Fr st0 s → ∃ s', body d s = .ok (f d) s' ∧ Fr s s') :
    ∃ st', compLoop all p st0.length body xs (st0 ++ [.lst []]) = .ok () st' ∧ Fr st0 st' ∧ st'[st0.length]? = some (.lst (xs.filterMap f)) := by
  obtain ⟨s', e, J, y⟩ := Lp (all := all) (p := p) (n0 := st0.length) (body := body) (f := f) (J := Fr st0) hs (fun s ys h => h.set (Nat.le_refl _) _) xs [] (st0 ++ [.lst []]) (.app _) (by simp) (by simpa using hl) (fun d hd s ys hJ hn => by
    obtain ⟨s', e, F⟩ := hb d hd s hJ
    exact ⟨s', e, hJ.trans F, F.at hn⟩)
  exact ⟨s', e, J, by simpa using y⟩
end DD
namespace DD
open PySem L2
def Wr {α : Type} (r : Res α) (Q : α → Sto → Prop) : Prop := ∃ a s, r = .ok a s ∧ Q a s
section
variable {α β : Type} {r : Res α} {Q P : α → Sto → Prop} {a : α} {s : Sto}
theorem au (h : Q a s) : Wr (.ok a s) Q := ⟨a, s, rfl, h⟩
theorem By (e : r = .ok a s) (h : Q a s) : Wr r Q := ⟨a, s, e, h⟩
theorem Wr.imp (h : Wr r P) (g : ∀ a s, P a s → Q a s) : Wr r Q := by
 obtain ⟨a, s, e, p⟩ := h
 exact ⟨a, s, e, g a s p⟩
theorem ag {R : β → Sto → Prop} {f : α → Sto → Res β} (h : Wr r fun a s => Wr (f a s) R) : Wr (r.bind f) R := by
 obtain ⟨a, s, rfl, p⟩ := h
 exact p
theorem fw {A B : Prop} (h : A) : ((true = true → A) ∧ (true = false → B)) := ⟨fun _ => h, fun h => by cases h⟩
theorem Bc {A B : Prop} (h : B) : ((false = true → A) ∧ (false = false → B)) := ⟨(fun h => by cases h), fun _ => h⟩
end
section
variable {t : Nat → Ty → Option Bool} {call : Or} {F : Nat} {env : DD.Env} {st : Sto} {Q : D → Sto → Prop} {QL : List D → Sto → Prop} {QB : Bool → Sto → Prop} {QF : Fl → Sto → Prop}
theorem w_var {i : Nat} {d : D} (h : Cd env i = some d) (q : Q d st) : Wr (aa t call (.var i) env st) Q := ⟨d, st, Zu h, q⟩
theorem Ac {d : D} (q : Q d st) : Wr (aa t call (.cst d) env st) Q := ⟨d, st, Zv, q⟩
theorem af (q : QL [] st) : Wr (As t call .nil env st) QL := ⟨[], st, by rw [As], q⟩
theorem ab {e : E} {es : Es} (h : Wr (aa t call e env st) fun d s => Wr (As t call es env s) fun ds s => QL (d :: ds) s) : Wr (As t call (.cons e es) env st) QL := by
 rw [As]
 exact ag (h.imp fun d s h => ag (h.imp fun ds s h => au h))
theorem Hz (q : QL [] st) : Wr (Dp t call .nil env st) QL := ⟨[], st, by rw [Dp], q⟩
theorem ia {e : E} {es : Es} (h : Wr (aa t call e env st) fun d s => ∃ i, d = .int i ∧ Wr (Dp t call es env s) fun ds s => QL (.int i :: ds) s) : Wr (Dp t call (.cons e es) env st) QL := by
 rw [Dp]
 refine ag (h.imp fun d s h => ?_)
 obtain ⟨i, rfl, h⟩ := h
 exact ag (h.imp fun ds s h => au h)
theorem Be {es : Es} (h : Wr (As t call es env st) fun ds s => ds.length ≤ sizeLine ∧ Q (.tup ds) s) : Wr (aa t call (.tupE es) env st) Q := by
 rw [aa]
 refine ag (h.imp fun ds s h => ?_)
 rw [if_pos h.1]; exact au h.2
theorem Ed {es : Es} (h : Wr (As t call es env st) fun ds s => ds.length ≤ sizeLine ∧ Q (.loc s.length) (s ++ [.lst ds])) : Wr (aa t call (.lstE es) env st) Q := by
 rw [aa]
 refine ag (h.imp fun ds s h => ?_)
 rw [if_pos h.1]; exact au h.2
theorem ao {o : Op} {a b : E} (h : Wr (aa t call a env st) fun x s => Wr (aa t call b env s) fun y s => Wr (opD o x y s) Q) : Wr (aa t call (.op o a b) env st) Q := by
 rw [aa]
 exact ag (h.imp fun _ _ h => ag h)
theorem zy {a : E} (h : Wr (aa t call a env st) fun x s => ∃ i, x = .int i ∧ Q (.int (-i)) s) : Wr (aa t call (.neg a) env st) Q := by
 rw [aa]
 refine ag (h.imp fun _ _ h => ?_)
 obtain ⟨i, rfl, h⟩ := h
 exact au h
theorem Zy {o : Cm} {a b : E} (h : Wr (aa t call a env st) fun x s => Wr (aa t call b env s) fun y s => Wr (cmD o x y s) Q) : Wr (aa t call (.cm o a b) env st) Q := by
 rw [aa]
 exact ag (h.imp fun _ _ h => ag h)
theorem w_and {a b : E} (h : Wr (aa t call a env st) fun x s => ∃ c, x = .bl c ∧ (c = true → Wr (aa t call b env s) Q) ∧ (c = false → Q (.bl false) s)) : Wr (aa t call (.andE a b) env st) Q := by
 rw [aa]
 refine ag (h.imp fun _ _ h => ?_)
 obtain ⟨c, rfl, h1, h2⟩ := h
 cases c with
 | true => exact h1 rfl
 | false => exact au (h2 rfl)
theorem w_or {a b : E} (h : Wr (aa t call a env st) fun x s => ∃ c, x = .bl c ∧ (c = true → Q (.bl true) s) ∧ (c = false → Wr (aa t call b env s) Q)) : Wr (aa t call (.orE a b) env st) Q := by
 rw [aa]
 refine ag (h.imp fun _ _ h => ?_)
 obtain ⟨c, rfl, h1, h2⟩ := h
 cases c with
 | true => exact au (h1 rfl)
 | false => exact h2 rfl
theorem w_not {a : E} (h : Wr (aa t call a env st) fun x s => ∃ c, x = .bl c ∧ Q (.bl (!c)) s) : Wr (aa t call (.notE a) env st) Q := by
 rw [aa]
 refine ag (h.imp fun _ _ h => ?_)
 obtain ⟨c, rfl, h1⟩ := h
 exact au h1
theorem Lr {c a b : E} (h : Wr (Aj t call c env st) fun x s => (x = true → Wr (aa t call a env s) Q) ∧ (x = false → Wr (aa t call b env s) Q)) : Wr (aa t call (.ifE c a b) env st) Q := by
 rw [aa]
 refine ag (h.imp fun x _ h => ?_)
 cases x with
 | true => exact h.1 rfl
 | false => exact h.2 rfl
theorem Au {f : Nat} {es : Es} {dv : List D} (h : Wr (As t call es env st) fun ds s => Wr (call f (ds ++ dv) s) Q) : Wr (aa t call (.call f es dv) env st) Q := by
 rw [aa]; exact ag h
theorem Ee {f : Bt} {es : Es} (h : Wr (As t call es env st) fun ds s => Wr (btD f ds s) Q) : Wr (aa t call (.bt f es) env st) Q := by
 rw [aa]; exact ag h
theorem Bj {a b : E} (h : Wr (aa t call a env st) fun x s => Wr (aa t call b env s) fun y s => Wr (ixD x y s) Q) : Wr (aa t call (.ix a b) env st) Q := by
 rw [aa]
 exact ag (h.imp fun _ _ h => ag h)
theorem zz {a : E} {ty : Ty} (h : Wr (aa t call a env st) fun x s => ∃ u c, Et s x = some u ∧ Ey t u ty = some c ∧ Q (.bl c) s) : Wr (aa t call (.isi a ty) env st) Q := by
 rw [aa]
 refine ag (h.imp fun x s h => ?_)
 obtain ⟨u, c, h1, h2, h3⟩ := h
 rw [h1, Option.bind_some, h2]; exact au h3
theorem Zz (h : Q (.loc st.length) (st ++ [.dct []])) : Wr (aa t call .dnew env st) Q := by rw [aa]; exact au h
theorem aaa (h : Q (.loc st.length) (st ++ [.dcn []])) : Wr (aa t call .dnewN env st) Q := by rw [aa]; exact au h
theorem Ia {k : Nat} {a : E} {es : Es} (h : Wr (aa t call a env st) fun x s => Wr (Dp t call es env s) fun ds s => Wr (slD k x ds s) Q) : Wr (aa t call (.sl k a es) env st) Q := by
 rw [aa]
 exact ag (h.imp fun _ _ h => ag h)
theorem aab {c1 c2 : Cm} {a b c : E} (h : Wr (aa t call a env st) fun x s => Wr (aa t call b env s) fun y s => Wr (cmD c1 x y s) fun z s => ∃ v, z = .bl v ∧ (v = true → Wr (aa t call c env s) fun w s => Wr (cmD c2 y w s) Q) ∧ (v = false → Q (.bl false) s)) : Wr (aa t call (.chn c1 c2 a b c) env st) Q := by
 rw [aa]
 refine ag (h.imp fun x _ h => ag (h.imp fun y _ h => ag (h.imp fun z s h => ?_)))
 obtain ⟨v, rfl, h1, h2⟩ := h
 cases v with
 | true => exact ag (h1 rfl)
 | false => exact au (h2 rfl)
theorem w_fld {c : Nat} {o : E} {f : Str} (h : Wr (aa t call o env st) fun x s => ∃ n fs d, x = .loc n ∧ s[n]? = some (.ins c fs) ∧ fs.lookup f = some d ∧ Q d s) : Wr (aa t call (.fld c o f) env st) Q := by
 rw [aa]
 refine ag (h.imp fun x s h => ?_)
 obtain ⟨n, fs, d, rfl, h1, h2, h3⟩ := h
 simp only [h1, h2, if_true]
 exact au h3
theorem w_mk {c f : Nat} {es : Es} (h : Wr (As t call es env st) fun ds s => Wr (call f (.loc s.length :: ds) (s ++ [.ins c []])) fun r s' => r = .non ∧ Q (.loc s.length) s') : Wr (aa t call (.mk c f es) env st) Q := by
 rw [aa]
 refine ag (h.imp fun ds s h => ag (h.imp fun r s' h => ?_))
 obtain ⟨rfl, h⟩ := h
 exact au h
theorem Ls {c f : Nat} {m : Str} {o : E} {es : Es} (h : Wr (aa t call o env st) fun x s => ∃ n fs, x = .loc n ∧ s[n]? = some (.ins c fs) ∧ fs.lookup m = none ∧ Wr (As t call es env s) fun ds s => Wr (call f (.loc n :: ds) s) Q) : Wr (aa t call (.Ds c f m o es) env st) Q := by
 rw [aa]
 refine ag (h.imp fun x s h => ?_)
 obtain ⟨n, fs, rfl, h1, h2, h3⟩ := h
 simp only [h1, h2, and_self, if_true]
 exact ag h3
theorem Fw {m : Mt} {o : E} {es : Es} (h : Wr (aa t call o env st) fun x s => rdy m s x = true ∧ Wr (As t call es env s) fun ds s => Wr (mtD m x ds s) Q) : Wr (aa t call (.mt m o es) env st) Q := by
 rw [aa]
 refine ag (h.imp fun x s h => ?_)
 rw [if_pos h.1]; exact ag h.2
theorem Jf {a b : E} (h : Wr (Aj t call a env st) fun x s => (x = true → Wr (Aj t call b env s) QB) ∧ (x = false → QB false s)) : Wr (Aj t call (.andE a b) env st) QB := by
 rw [Aj]
 refine ag (h.imp fun x _ h => ?_)
 cases x with
 | true => exact h.1 rfl
 | false => exact au (h.2 rfl)
theorem Cy {a b : E} (h : Wr (Aj t call a env st) fun x s => (x = true → QB true s) ∧ (x = false → Wr (Aj t call b env s) QB)) : Wr (Aj t call (.orE a b) env st) QB := by
 rw [Aj]
 refine ag (h.imp fun x _ h => ?_)
 cases x with
 | true => exact au (h.1 rfl)
 | false => exact h.2 rfl
theorem gz {a : E} (h : Wr (Aj t call a env st) fun x s => QB (!x) s) : Wr (Aj t call (.notE a) env st) QB := by
 rw [Aj]
 exact ag (h.imp fun x _ h => au h)
theorem Bb {o : Cm} {a b : E} (h : Wr (aa t call a env st) fun x s => Wr (aa t call b env s) fun y s => Wr (cmD o x y s) fun d s => ∃ c, d = .bl c ∧ QB c s) : Wr (Aj t call (.cm o a b) env st) QB := by
 rw [Aj]
 refine ag (h.imp fun _ _ h => ag (h.imp fun _ _ h => ag (h.imp fun d s h => ?_)))
 obtain ⟨c, rfl, h⟩ := h
 exact au h
theorem jg {f : Nat} {es : Es} {dv : List D} (h : Wr (As t call es env st) fun ds s => Wr (call f (ds ++ dv) s) fun d s => ∃ c, truth s d = some c ∧ QB c s) : Wr (Aj t call (.call f es dv) env st) QB := by
 rw [Aj]
 refine ag (h.imp fun _ _ h => ag (h.imp fun d s h => ?_))
 obtain ⟨c, h1, h⟩ := h
 simp only [h1]
 exact au h
theorem aac {f : Bt} {es : Es} (h : Wr (As t call es env st) fun ds s => Wr (btD f ds s) fun d s => ∃ c, truth s d = some c ∧ QB c s) : Wr (Aj t call (.bt f es) env st) QB := by
 rw [Aj]
 refine ag (h.imp fun _ _ h => ag (h.imp fun d s h => ?_))
 obtain ⟨c, h1, h⟩ := h
 simp only [h1]
 exact au h
theorem aad {a b : E} (h : Wr (aa t call a env st) fun x s => Wr (aa t call b env s) fun y s => Wr (ixD x y s) fun d s => ∃ c, truth s d = some c ∧ QB c s) : Wr (Aj t call (.ix a b) env st) QB := by
 rw [Aj]
 refine ag (h.imp fun _ _ h => ag (h.imp fun _ _ h => ag (h.imp fun d s h => ?_)))
 obtain ⟨c, h1, h⟩ := h
 simp only [h1]
 exact au h
theorem ib {a : E} {ty : Ty} (h : Wr (aa t call a env st) fun x s => ∃ u c, Et s x = some u ∧ Ey t u ty = some c ∧ QB c s) : Wr (Aj t call (.isi a ty) env st) QB := by
 rw [Aj]
 refine ag (h.imp fun x s h => ?_)
 obtain ⟨u, c, h1, h2, h3⟩ := h
 rw [h1, Option.bind_some, h2]; exact au h3
theorem aae {c1 c2 : Cm} {a b c : E} (h : Wr (aa t call a env st) fun x s => Wr (aa t call b env s) fun y s => Wr (cmD c1 x y s) fun z s => ∃ v, z = .bl v ∧ (v = true → Wr (aa t call c env s) fun w s => Wr (cmD c2 y w s) fun d s => ∃ c, d = .bl c ∧ QB c s) ∧ (v = false → QB false s)) : Wr (Aj t call (.chn c1 c2 a b c) env st) QB := by
 rw [Aj]
 refine ag (h.imp fun x _ h => ag (h.imp fun y _ h => ag (h.imp fun z s h => ?_)))
 obtain ⟨v, rfl, h1, h2⟩ := h
 cases v with
 | true =>
  refine ag ((h1 rfl).imp fun _ _ h => ag (h.imp fun d s h => ?_))
  obtain ⟨c, rfl, h⟩ := h
  exact au h
 | false => exact au (h2 rfl)
theorem aaf (h : QB true st) : Wr (Bo t call .nil env st) QB := by rw [Bo]; exact au h
theorem aag {c : E} {r : Es} (h : Wr (Aj t call c env st) fun x s => (x = true → Wr (Bo t call r env s) QB) ∧ (x = false → QB false s)) : Wr (Bo t call (.cons c r) env st) QB := by
 rw [Bo]
 refine ag (h.imp fun x s h => ?_)
 cases x with
 | true => exact h.1 rfl
 | false => exact au (h.2 rfl)
def Kt (t : Nat → Ty → Option Bool) (call : Or) (F : Nat) (r : Ss) (Q : Fl → Sto → Prop) (f : Fl) (s : Sto) : Prop := match f with
 | .next env' => Wr (An t call F r env' s) Q
 | f => Q f s
theorem ax (h : QF (.next env) st) : Wr (An t call F .nil env st) QF := ⟨_, _, ze, h⟩
theorem Af {c : S} {r : Ss} (h : Wr (Al t call F c env st) (Kt t call F r QF)) : Wr (An t call F (.cons c r) env st) QF := by
 rw [Ze]
 refine ag (h.imp fun f s h => ?_)
 cases f <;> first | exact h | exact au h
theorem ah {r : Ss} (h : Wr (An t call F r env st) QF) : Kt t call F r QF (.next env) st := h
theorem aah {r : Ss} {d : D} (h : QF (.ret d) st) : Kt t call F r QF (.ret d) st := h
theorem Bf {i : Nat} {e : E} (h : Wr (aa t call e env st) fun d s => i < env.length ∧ QF (.next (env.set i (some d))) s) : Wr (Al t call F (.set i e) env st) QF := by
 rw [zf]
 refine ag (h.imp fun d s h => ?_)
 rw [if_pos h.1]; exact au h.2
theorem qf {is : List Nat} {e : E} (h : Wr (aa t call e env st) fun d s => ∃ env', store is false d env = some env' ∧ QF (.next env') s) : Wr (Al t call F (.unp is e) env st) QF := by
 rw [Zf]
 refine ag (h.imp fun d s h => ?_)
 obtain ⟨env', h1, h⟩ := h
 simp only [h1]; exact au h
theorem aai {is : List Nat} {e : E} (h : Wr (aa t call e env st) fun d s => ∃ n ds env', d = .loc n ∧ Am s n = some ds ∧ Bq is ds env = some env' ∧ QF (.next env') s) : Wr (Al t call F (.unpL is e) env st) QF := by
 rw [Al]
 refine ag (h.imp fun d s h => ?_)
 obtain ⟨n, ds, env', rfl, h1, h2, h⟩ := h
 simp only [h1, h2]; exact au h
theorem aaj {i j : Nat} {a b : E} (h : Wr (aa t call a env st) fun x s => Wr (aa t call b env s) fun y s => (i < env.length ∧ j < env.length) ∧ QF (.next ((env.set i (some x)).set j (some y))) s) : Wr (Al t call F (.par i j a b) env st) QF := by
 rw [zg]
 refine ag (h.imp fun d s h => ag (h.imp fun d s h => ?_))
 rw [if_pos h.1]; exact au h.2
theorem aak {i : Nat} {o : Op} {e : E} {x : Int} (hx : Cd env i = some (.int x)) (h : Wr (aa t call e env st) fun y s => ∃ j, y = .int j ∧ Wr (opD o (.int x) (.int j) s) fun z s => i < env.length ∧ QF (.next (env.set i (some z))) s) : Wr (Al t call F (.aug i o e) env st) QF := by
 rw [Al, hx]
 refine ag (h.imp fun d s h => ?_)
 obtain ⟨j, rfl, h⟩ := h
 refine ag (h.imp fun d s h => ?_)
 rw [if_pos h.1]; exact au h.2
theorem Bh {c : E} {a b : Ss} (h : Wr (Aj t call c env st) fun x s => (x = true → Wr (An t call F a env s) QF) ∧ (x = false → Wr (An t call F b env s) QF)) : Wr (Al t call F (.ifS c a b) env st) QF := by
 rw [Zg]
 refine ag (h.imp fun x s h => ?_)
 cases x with
 | true => exact h.1 rfl
 | false => exact h.2 rfl
theorem Bg {e : E} (h : Wr (aa t call e env st) fun d s => QF (.ret d) s) : Wr (Al t call F (.ret e) env st) QF := by
 rw [zh]; exact ag (h.imp fun d s h => au h)
theorem Dq {e : E} (h : Wr (aa t call e env st) fun d s => QF (.next env) s) : Wr (Al t call F (.ex e) env st) QF := by
 rw [Zh]; exact ag (h.imp fun d s h => au h)
theorem aal {c : Nat} {o : E} {f : Str} {e : E} (h : Wr (aa t call e env st) fun y s => Wr (aa t call o env s) fun x s => ∃ n fs, x = .loc n ∧ s[n]? = some (.ins c fs) ∧ fs.length < 900 ∧ QF (.next env) (s.set n (.ins c (Cu f y fs)))) : Wr (Al t call F (.setf c o f e) env st) QF := by
 rw [Al]
 refine ag (h.imp fun y s h => ag (h.imp fun x s h => ?_))
 obtain ⟨n, fs, rfl, h1, h2, h3⟩ := h
 simp only [h1, h2, and_self, if_true]
 exact au h3
theorem lu {tg : List Nat} {one k : Bool} {it : E} {b : Ss} (h : Wr (aa t call it env st) fun d s => ∃ xs p, Dn k s d = some (xs, p) ∧ Wr (forLoop xs p (turn t call F tg one b) xs env s) QF) : Wr (Al t call F (.forS tg one k it b) env st) QF := by
 rw [zj]
 refine ag (h.imp fun d s h => ?_)
 obtain ⟨xs, p, h1, h⟩ := h
 simp only [h1]; exact h
theorem Jg {tg : List Nat} {es : Es} {b : Ss} (h : Wr (As t call es env st) fun ds s => ∃ xs, fb ds = some xs ∧ Wr (forLoop xs none (turn t call F tg true b) xs env s) QF) : Wr (Al t call F (.forR tg es b) env st) QF := by
 rw [Zj]
 refine ag (h.imp fun d s h => ?_)
 obtain ⟨xs, h1, h⟩ := h
 simp only [h1]; exact h
theorem Ib {tg : List Nat} {one : Bool} {b : Ss} {d : D} {env' : DD.Env} (h : store tg one d env = some env') (w : Wr (An t call F b env' st) QF) : Wr (turn t call F tg one b d env st) QF := by
 rw [Zi h]; exact w
theorem ic {xs : List D} {p : Option Nat} {body : D → DD.Env → Sto → Res Fl} (J : Nat → DD.Env → Sto → Prop) (hs : ∀ i env st, J i env st → stays st p xs = true) (h0 : J 0 env st)
    (ht : ∀ (j : Nat) (d : D), xs[j]? = some d → ∀ env st, J j env st → Wr (body d env st) fun f s => ∃ env', f = .next env' ∧ J (j + 1) env' s)
    (q : ∀ env s, J xs.length env s → QF (.next env) s) : Wr (forLoop xs p body xs env st) QF := by
  obtain ⟨env', s, e, j⟩ := Qc hs xs 0 env st h0 fun j d hd env st hj => by
    rw [Nat.zero_add] at hj
    obtain ⟨f, s, e, env', rfl, j⟩ := ht j d hd env st hj
    exact ⟨env', s, e, by rwa [Nat.zero_add]⟩
  rw [Nat.zero_add] at j
  exact ⟨_, _, e, q _ _ j⟩
theorem aam {k nl : Nat} {one : Bool} {tg fv : List Nat} {it elt : E} {ifs : Es}
    (h : Wr (aa t call it env st) fun d s => ∃ xs p, ∃ f : D → Option D, Cp k s d = some (xs, p) ∧ xs.length ≤ sizeLine ∧ (∀ s', Fr s s' → stays s' p xs = true) ∧
      (∀ d ∈ xs, ∀ s', Fr s s' → Wr (Qd t call tg one (bo nl fv env) ifs elt d s') fun r s2 => r = f d ∧ Fr s' s2) ∧
      ∀ s', Fr s s' → s'[s.length]? = some (.lst (xs.filterMap f)) → Q (.loc s.length) s') : Wr (aa t call (.comp k one nl tg fv it ifs elt) env st) Q := by
  obtain ⟨d, s, e, xs, p, f, hi, hl, hs, hb, q⟩ := h
  rw [zk e hi]
  obtain ⟨s', e2, F, y⟩ := Zx (all := xs) (xs := xs) (p := p) (f := f) hl hs fun d hd s2 F => by
    obtain ⟨r, s3, e3, rfl, F3⟩ := hb d hd s2 F
    exact ⟨s3, e3, F3⟩
  rw [e2]
  exact au (q s' F y)
def Lu (t : Nat → Ty → Option Bool) (call : Or) (tg : List Nat) (one : Bool) (env : DD.Env) (ifs : Es) (kx vx : E) (d : D) (st : Sto) : Res (Option (D × D)) := match store tg one d env with
 | some env' => (Bo t call ifs env' st).bind fun b st => if b then (aa t call kx env' st).bind fun k st => (aa t call vx env' st).bind fun y st => .ok (some (k, y)) st else .ok none st
 | none => .bad
theorem Lw {all : List D} {p : Option Nat} {n0 : Nat} {body : D → Sto → Res (Option (D × D))} {f : D → Option (D × D)} {J : Sto → Prop} (hs : ∀ st, J st → stays st p all = true) (hset : ∀ st kvs, J st → J (st.set n0 (.dct kvs))) :
    ∀ (xs : List D) (kvs : List (D × D)) (st : Sto), J st → st[n0]? = some (.dct kvs) → kvs.length + xs.length ≤ sizeLine → (∀ d ∈ xs, ∀ k y, f d = some (k, y) → Bs k = true) →
    (∀ d ∈ xs, ∀ st kvs, J st → st[n0]? = some (.dct kvs) → ∃ st', body d st = .ok (f d) st' ∧ J st' ∧ st'[n0]? = some (.dct kvs)) →
    ∃ st', Bi all p n0 body xs st = .ok () st' ∧ J st' ∧ st'[n0]? = some (.dct (Fs kvs (xs.filterMap f)))
  | [], kvs, st, h, hy, _, _, _ => ⟨st, by simp only [Bi]; rw [if_pos (hs _ h)], h, by simpa [Fs] using hy⟩
  | d :: r, kvs, st, h, hy, hl, hk, hb => by
    obtain ⟨s1, e1, j1, y1⟩ := hb d List.mem_cons_self st kvs h hy
    simp only [Bi]
    rw [if_pos (hs _ h), e1]
    have hl2 : kvs.length < sizeLine := by simp at hl; omega
    cases hf : f d with
    | none =>
      obtain ⟨s2, e2, j2, y2⟩ := Lw hs hset r kvs s1 j1 y1 (by simp at hl ⊢; omega) (fun x hx => hk x (List.mem_cons_of_mem _ hx)) fun x hx => hb x (List.mem_cons_of_mem _ hx)
      exact ⟨s2, e2, j2, by rw [List.filterMap_cons, hf]; exact y2⟩
    | some kv =>
      obtain ⟨k, y⟩ := kv
      have hlen : (bu kvs k y).length ≤ kvs.length + 1 := by unfold bu; split <;> simp
      obtain ⟨s2, e2, j2, y2⟩ := Lw hs hset r (bu kvs k y) (s1.set n0 (.dct (bu kvs k y))) (hset _ _ j1) (qd y1 _) (by simp at hl ⊢; omega) (fun x hx => hk x (List.mem_cons_of_mem _ hx)) fun x hx => hb x (List.mem_cons_of_mem _ hx)
      refine ⟨s2, ?_, j2, by rw [List.filterMap_cons, hf]; simpa [Fs] using y2⟩
      simp only [y1, hl2, hk d List.mem_cons_self k y hf, and_self, if_true]
      exact e2
theorem aan {k nl : Nat} {one : Bool} {tg fv : List Nat} {it kx vx : E} {ifs : Es}
    (h : Wr (aa t call it env st) fun d s => ∃ xs p, ∃ f : D → Option (D × D), Cp k s d = some (xs, p) ∧ xs.length ≤ sizeLine ∧ (∀ d ∈ xs, ∀ k y, f d = some (k, y) → Bs k = true) ∧ (∀ s', Fr s s' → stays s' p xs = true) ∧
      (∀ d ∈ xs, ∀ s', Fr s s' → Wr (Lu t call tg one (bo nl fv env) ifs kx vx d s') fun r s2 => r = f d ∧ Fr s' s2) ∧
      ∀ s', Fr s s' → s'[s.length]? = some (.dct (Fs [] (xs.filterMap f))) → Q (.loc s.length) s') : Wr (aa t call (.dcomp k one nl tg fv it ifs kx vx) env st) Q := by
  obtain ⟨d, s, e, xs, p, f, hi, hl, hk, hs, hb, q⟩ := h
  rw [aa, e]
  simp only [bc, hi]
  obtain ⟨s', e2, F, y⟩ := Lw (all := xs) (p := p) (n0 := s.length) (body := Lu t call tg one (bo nl fv env) ifs kx vx) (f := f) (J := Fr s) hs (fun s2 ys h => h.set (Nat.le_refl _) _) xs [] (s ++ [.dct []]) (.app _) (by simp) (by simpa using hl) hk (fun d hd s2 ys hJ hn => by
    obtain ⟨r, s3, e3, rfl, F3⟩ := hb d hd s2 hJ
    exact ⟨s3, e3, hJ.trans F3, F3.at hn⟩)
  show Wr ((Bi xs p s.length (Lu t call tg one (bo nl fv env) ifs kx vx) xs (s ++ [.dct []])).bind fun _ st' => .ok (.loc s.length) st') Q
  rw [e2]
  exact au (q s' F y)
def Kf (Q : D → Sto → Prop) (f : Fl) (s : Sto) : Prop := match f with
 | .next _ => Q .non s
 | .ret d => Q d s
 | _ => False
theorem aao (h : Q .non st) : Kf Q (.next env) st := h
theorem aap {d : D} (h : Q d st) : Kf Q (.ret d) st := h
theorem Bp {fns : List Fn} {n f np nl : Nat} {b : Ss} {args : List D} (env : DD.Env) (h : fns[f]? = some ⟨np, nl, b⟩) (hl : args.length = np) (hn : np ≤ nl) (he : args.map some ++ List.replicate (nl - np) none = env) (w : Wr (An t (Bw t fns F n) F b env st) (Kf Q)) : Wr (Bw t fns F (n + 1) f args st) Q := by
  show Wr (match fns[f]? with
      | some fn => if args.length = fn.np ∧ fn.np ≤ fn.nl then fin (An t (Bw t fns F n) F fn.body (args.map some ++ List.replicate (fn.nl - fn.np) none) st) else .bad
      | none => .bad) Q
  rw [h]; simp only; rw [if_pos ⟨hl, hn⟩, he]
  unfold fin
  refine ag (w.imp fun f s h => ?_)
  cases f with
  | next e => exact au h
  | ret d => exact au h
  | brk e => exact h.elim
  | cont e => exact h.elim
theorem Qf {A B : Prop} (h : B) : (((!true) = true → A) ∧ ((!true) = false → B)) := Bc h
theorem aaq {A B : Prop} (h : A) : (((!false) = true → A) ∧ ((!false) = false → B)) := fw h
end
section
variable {st : Sto} {Q : D → Sto → Prop} {i j : Int} {n m : Nat} {xs ys : List D} {kvs : List (D × D)} {d k : D}
theorem Gz (h : Q (.int (i + j)) st) : Wr (opD .add (.int i) (.int j) st) Q := ⟨_, _, Zk, h⟩
theorem cz (h : Q (.int (i - j)) st) : Wr (opD .sub (.int i) (.int j) st) Q := ⟨_, _, zl, h⟩
theorem lx (g : Gu i) (h : Q (.int (i * j)) st) : Wr (opD .mul (.int i) (.int j) st) Q := ⟨_, _, qe (.inl g), h⟩
theorem Lx (g : Gu j) (h : Q (.int (i * j)) st) : Wr (opD .mul (.int i) (.int j) st) Q := ⟨_, _, qe (.inr (.inl g)), h⟩
theorem Cg (g : Dx j) (h : Q (.int (i.fdiv j)) st) : Wr (opD .fdiv (.int i) (.int j) st) Q := ⟨_, _, Zl g, h⟩
theorem bz (g : j ≠ 0) (h : Q (.int (i.fmod j)) st) : Wr (opD .mod (.int i) (.int j) st) Q := ⟨_, _, zm g, h⟩
theorem ly (g : Ho i j) (h : Q (.int (i ^ j.toNat)) st) : Wr (opD .pow (.int i) (.int j) st) Q := ⟨_, _, Zm g, h⟩
theorem aar (hn : st[n]? = some (.lst xs)) (hm : st[m]? = some (.lst ys)) (g : xs.length + ys.length ≤ sizeLine) (h : Q (.loc st.length) (st ++ [.lst (xs ++ ys)])) : Wr (opD .add (.loc n) (.loc m) st) Q := ⟨_, _, Zn hn hm g, h⟩
theorem Ha (h : Q (.bl (decide (i = j))) st) : Wr (cmD .eq (.int i) (.int j) st) Q := ⟨_, _, zo, h⟩
theorem jh (h : Q (.bl (!decide (i = j))) st) : Wr (cmD .ne (.int i) (.int j) st) Q := ⟨_, _, Zo, h⟩
theorem ef (h : Q (.bl (decide (i < j))) st) : Wr (cmD .lt (.int i) (.int j) st) Q := ⟨_, _, zp, h⟩
theorem aas (h : Q (.bl (decide (i ≤ j))) st) : Wr (cmD .le (.int i) (.int j) st) Q := ⟨_, _, Zp, h⟩
theorem Ly (h : Q (.bl (decide (j < i))) st) : Wr (cmD .gt (.int i) (.int j) st) Q := ⟨_, _, zq, h⟩
theorem aat (h : Q (.bl (decide (j ≤ i))) st) : Wr (cmD .ge (.int i) (.int j) st) Q := ⟨_, _, Zq, h⟩
theorem Lz (h : Q (.bl (decide (d = .non))) st) : Wr (cmD .isN d .non st) Q := ⟨_, _, by simp only [cmD], h⟩
theorem qg (h : Q (.bl (!decide (d = .non))) st) : Wr (cmD .notN d .non st) Q := ⟨_, _, by simp only [cmD], h⟩
theorem aau {a b : D} (ha : okN 40 a = true) (hb : okN 40 b = true) (h : Q (.bl (decide (a = b))) st) : Wr (cmD .eq a b st) Q := ⟨_, _, zw ha hb, h⟩
theorem Ef {a b : D} (ha : okN 40 a = true) (hb : okN 40 b = true) (h : Q (.bl (!decide (a = b))) st) : Wr (cmD .ne a b st) Q := ⟨_, _, by simp only [cmD, eqV, Gy ha (Nat.le_refl _), Gy hb (Nat.le_refl _), Lq ha hb], h⟩
theorem aav (h1 : Am st n = some xs) (h2 : Am st m = some ys) (hx : xs.all (okN 39) = true) (hy : ys.all (okN 39) = true) (h : Q (.bl (decide (xs = ys))) st) : Wr (cmD .eq (.loc n) (.loc m) st) Q := ⟨_, _, zx h1 h2 hx hy, h⟩
theorem Br (e : L2.atI xs i = some d) (h : Q d st) : Wr (ixD (.tup xs) (.int i) st) Q := ⟨_, _, zt e, h⟩
theorem Jh (g : Am st n = some xs) (e : L2.atI xs i = some d) (h : Q d st) : Wr (ixD (.loc n) (.int i) st) Q := ⟨_, _, Zt g e, h⟩
theorem Hb (h : Q (.int xs.length) st) : Wr (btD .lenB [.tup xs] st) Q := ⟨_, _, Zr, h⟩
theorem ma (g : Am st n = some xs) (h : Q (.int xs.length) st) : Wr (btD .lenB [.loc n] st) Q := ⟨_, _, Zs g, h⟩
theorem aaw {b : Bool} (h : Q (.int (if b then 1 else 0)) st) : Wr (btD .intB [.bl b] st) Q := ⟨_, _, zr, h⟩
theorem aax (h : Q (.int (if j < i then j else i)) st) : Wr (btD .minB [.int i, .int j] st) Q := ⟨_, _, by simp only [btD], h⟩
theorem aay (h : Q (.int (if j > i then j else i)) st) : Wr (btD .maxB [.int i, .int j] st) Q := ⟨_, _, by simp only [btD], h⟩
theorem Qg (g : st[n]? = some (.lst xs)) (hl : xs.length < sizeLine) (h : Q .non (st.set n (.lst (xs ++ [d])))) : Wr (mtD .append (.loc n) [d] st) Q := ⟨_, _, by simp only [mtD, g]; rw [if_pos hl], h⟩
theorem aaz {k : Nat} {ds : List D} {lo hi : Option Int} (e : iw k ds = some (lo, hi)) (g : Am st n = some xs) (h : Q (.loc st.length) (st ++ [.lst (cutD xs lo hi)])) : Wr (slD k (.loc n) ds st) Q := ⟨_, _, by simp only [slD, e, g], h⟩
theorem Ma {k : Nat} {ds : List D} {lo hi : Option Int} (e : iw k ds = some (lo, hi)) (h : Q (.tup (cutD xs lo hi)) st) : Wr (slD k (.tup xs) ds st) Q := ⟨_, _, by simp only [slD, e], h⟩
theorem qh {m : Mt} (g : st[n]? = some (.lst xs)) (hm : rdy m st (.loc n) = Ew st (.loc n) := by rfl) : rdy m st (.loc n) = true := by rw [hm]; simp only [Ew, g]
end
end DD
namespace DD
open PySem L2
section
variable {t : Nat → Ty → Option Bool} {call : Or} {F : Nat} {env : DD.Env} {st : Sto} {Q : D → Sto → Prop} {QF : Fl → Sto → Prop}
theorem Qh {test : DD.Env → Sto → Res Bool} {body : DD.Env → Sto → Res Fl} (J : Nat → DD.Env → Sto → Prop)
    (ht : ∀ m env st, J m env st → Wr (test env st) fun x s => (x = true → Wr (body env s) fun f s' => ∃ env' m', f = .next env' ∧ m' < m ∧ J m' env' s') ∧ (x = false → QF (.next env) s)) :
    ∀ (g m : Nat) (env : DD.Env) (st : Sto), m < g → J m env st → Wr (whileLoop test body g env st) QF
  | 0, m, env, st, h, _ => by omega
  | g + 1, m, env, st, h, j => by
    simp only [whileLoop]
    refine ag ((ht m env st j).imp fun x s h2 => ?_)
    cases x with
    | false => exact au (h2.2 rfl)
    | true =>
      refine ag ((h2.1 rfl).imp fun f s' h3 => ?_)
      obtain ⟨env', m', rfl, hm, j'⟩ := h3
      exact Qh J ht g m' env' s' (by omega) j'
theorem qi {c : E} {b : Ss} (J : Nat → DD.Env → Sto → Prop) (m : Nat) (hm : m < F) (h0 : J m env st)
    (ht : ∀ m env st, J m env st → Wr (Aj t call c env st) fun x s => (x = true → Wr (An t call F b env s) fun f s' => ∃ env' m', f = .next env' ∧ m' < m ∧ J m' env' s') ∧ (x = false → QF (.next env) s)) : Wr (Al t call F (.whileS c b) env st) QF := by
  rw [zi]
  exact Qh J ht F m env st hm h0
def aba (t : Nat → Ty → Option Bool) (call : Or) (F : Nat) (i : Nat) (tg : List Nat) (one : Bool) (b : Ss) (d : D) (env : DD.Env) (st : Sto) : Res Fl := match Oc i tg one d env with | some env' => An t call F b env' st | none => .bad
theorem abb {i : Nat} {tg : List Nat} {one : Bool} {it : E} {b : Ss} (h : Wr (aa t call it env st) fun d s => ∃ xs p, Dn false s d = some (xs, p) ∧ Wr (forLoop xs p (aba t call F i tg one b) (Ks 0 xs) env s) QF) : Wr (Al t call F (.forE i tg one it b) env st) QF := by
 rw [Al]
 refine ag (h.imp fun d s h => ?_)
 obtain ⟨xs, p, h1, h⟩ := h
 simp only [h1]; exact h
theorem abc {o k v : E} (h : Wr (aa t call v env st) fun y s => Wr (aa t call o env s) fun x s => Wr (aa t call k env s) fun kk s => ∃ n kvs, x = .loc n ∧ s[n]? = some (.dct kvs) ∧ Bs kk = true ∧ kvs.length < sizeLine ∧ QF (.next env) (s.set n (.dct (bu kvs kk y)))) : Wr (Al t call F (.dput o k v) env st) QF := by
 rw [Al]
 refine ag (h.imp fun y s h => ag (h.imp fun x s h => ag (h.imp fun kk s h => ?_)))
 obtain ⟨n, kvs, rfl, h1, h2, h3, h4⟩ := h
 simp only [Ba, h1, h2, h3, and_self, if_true]
 exact au h4
end
section
variable {st : Sto} {Q : D → Sto → Prop} {i j : Int} {n m : Nat} {xs ys : List D} {kvs : List (D × D)} {d k : D}
theorem Qi {m : Mt} (g : st[n]? = some (.dct kvs)) (hm : rdy m st (.loc n) = (Ba st n).isSome := by rfl) : rdy m st (.loc n) = true := by rw [hm]; simp only [Ba, g, Option.isSome_some]
end
end DD
namespace DD
open PySem L2
section
variable {t : Nat → Ty → Option Bool} {call : Or} {F : Nat} {env : DD.Env} {st : Sto} {Q : D → Sto → Prop} {QB : Bool → Sto → Prop} {QF : Fl → Sto → Prop}
theorem qj {rows : List (Str × D)} {k : E} (h : Wr (aa t call k env st) fun x s => ∃ z d, x = .str z ∧ rows.lookup z = some d ∧ Q d s) : Wr (aa t call (.tabV rows k) env st) Q := by
 rw [aa]
 refine ag (h.imp fun x s h => ?_)
 obtain ⟨z, d, rfl, e, h⟩ := h
 simp only [e]; exact au h
theorem abd {rows : List (Str × Nat)} {k : E} (h : Wr (aa t call k env st) fun x s => ∃ z i, x = .str z ∧ rows.lookup z = some i ∧ Q (.loc s.length) (s ++ [.fnc i])) : Wr (aa t call (.tabF rows k) env st) Q := by
 rw [aa]
 refine ag (h.imp fun x s h => ?_)
 obtain ⟨z, d, rfl, e, h⟩ := h
 simp only [e]; exact au h
theorem Qj {neg : Bool} {rows : List Str} {k : E} (h : Wr (aa t call k env st) fun x s => ∃ z, x = .str z ∧ QB (xor neg (decide (z ∈ rows))) s) : Wr (Aj t call (.tabIn neg rows k) env st) QB := by
 rw [Aj]
 refine ag (h.imp fun x s h => ?_)
 obtain ⟨z, rfl, h⟩ := h
 exact au h
theorem abe {is : List Nat} {f : E} {es : Es} (h : Wr (aa t call f env st) fun x s => ∃ n i, x = .loc n ∧ s[n]? = some (.fnc i) ∧ is.contains i = true ∧ Wr (As t call es env s) fun ds s => Wr (call i ds s) Q) : Wr (aa t call (.callV is f es) env st) Q := by
 rw [aa]
 refine ag (h.imp fun x s h => ?_)
 obtain ⟨n, i, rfl, e, hi, h⟩ := h
 simp only [e, hi, if_true]
 exact ag h
theorem abf {b : Ss} {c i : Nat} {h' : Ss} (h : Wr (An t call F b env st) QF) : Wr (Al t call F (.tryS b c i h') env st) QF := by
 obtain ⟨f, s, e, q⟩ := h
 rw [Al, e]
 exact ⟨f, s, rfl, q⟩
def Mb (t : Nat → Ty → Option Bool) (call : Or) (F : Nat) (t1 : List Nat) (o1 : Bool) (t2 : List Nat) (o2 : Bool) (b : Ss) (d : D) (env : DD.Env) (st : Sto) : Res Fl := match ft t1 o1 t2 o2 d env with | some env' => An t call F b env' st | none => .bad
theorem abg {t1 t2 : List Nat} {o1 o2 : Bool} {a c : E} {b : Ss} (h : Wr (As t call (.cons a (.cons c .nil)) env st) fun ds s => ∃ xs ys, ds = [.tup xs, .tup ys] ∧ xs.length ≤ ys.length ∧ Wr (Ce (fun _ => true) (Mb t call F t1 o1 t2 o2 b) (Ez xs ys) env s) QF) : Wr (Al t call F (.forZT t1 o1 t2 o2 a c b) env st) QF := by
 rw [Al]
 refine ag (h.imp fun ds s h => ?_)
 obtain ⟨xs, ys, rfl, hl, h⟩ := h
 simp only [hl, if_true]; exact h
theorem abh {t1 t2 : List Nat} {o1 o2 : Bool} {b : Ss} {d : D} {env' : DD.Env} (h : ft t1 o1 t2 o2 d env = some env') (w : Wr (An t call F b env' st) QF) : Wr (Mb t call F t1 o1 t2 o2 b d env st) QF := by
 unfold Mb; rw [h]; exact w
theorem w_walk {ok : Sto → Bool} {body : D → DD.Env → Sto → Res Fl} (J : Nat → DD.Env → Sto → Prop) (hs : ∀ i env st, J i env st → ok st = true) :
    ∀ (xs : List D) (k : Nat) (env : DD.Env) (st : Sto), J k env st → (∀ (j : Nat) (d : D), xs[j]? = some d → ∀ env st, J (k + j) env st → Wr (body d env st) fun f s => ∃ env', f = .next env' ∧ J (k + j + 1) env' s) → (∀ env s, J (k + xs.length) env s → QF (.next env) s) → Wr (Ce ok body xs env st) QF
  | [], k, env, st, h0, _, q => by
    simp only [Ce, hs k env st h0, if_true]
    exact au (q env st h0)
  | d :: r, k, env, st, h0, ht, q => by
    simp only [Ce, hs k env st h0, if_true]
    refine ag ((ht 0 d rfl env st h0).imp fun f s h => ?_)
    obtain ⟨env', rfl, j⟩ := h
    refine w_walk J hs r (k + 1) env' s j (fun j' d' hd env2 st2 hj => ?_) fun env2 s2 hj => q env2 s2 (by rw [List.length_cons, show k + (r.length + 1) = k + 1 + r.length by omega]; exact hj)
    have := ht (j' + 1) d' (by simpa using hd) env2 st2 (by rw [show k + (j' + 1) = k + 1 + j' by omega]; exact hj)
    rwa [show k + (j' + 1) + 1 = k + 1 + j' + 1 by omega] at this
end
end DD
namespace DD
open PySem PySem.Spec L2
open PyProof.Rows hiding St RelV
variable {g : G} {X : Cx} {a b c : Expr} {a' b' c' : E} {pos apos cpos : Pos} {rest es : List Expr} {es' : Es} {F : Nat}
theorem qk {t' : Nat} {fp : List Addr} {pins : List (Addr × Obj)} {sg : L2.St} {H : Hp} {s : Shared} {h' : Heap} (I : Inv X pins sg H s) (hf : ∀ b ∈ fp, ck X pins H b) (k : ∀ b o, b ∉ fp → s.heap.get? b = some o → h'.get? b = some o) : Inv X pins sg H { s with heap := h', toks := t' } := by
 have nit : ∀ b u, H b = some u → b ∉ fp := fun b u e z => by rw [(hf b z).1] at e; cases e
 refine I.step (g' := s.gens) (d' := s.drawn) (ch := fp) (fun b hb => ⟨(hf b hb).2.2.2.1, (hf b hb).2.1, (hf b hb).2.2.2.2.1, (hf b hb).2.2.2.2.2⟩) (fun b o _ _ hc e _ => k b o hc e) (fun b o _ _ hc e _ => ⟨o.slots, k b o hc e⟩) (fun _ _ _ _ n => n)
  (fun b o hc e => ⟨o, k b o hc e⟩) (fun _ _ e => e) (fun _ _ _ e => e) (fun b ps e => ⟨#[], by rw [e]; simp⟩) (fun m hm => ?_) (fun b u e => ?_) I.bare
 · obtain ⟨o, es, ep, ho, r⟩ := hm
   exact ⟨o, es, ep, k _ o (fun z => (hf _ z).2.1 rfl) ho, r⟩
 · refine (I.hok b u e).stay (fun c v hc q => k c v ?_ q) (fun _ q => q) fun _ _ q => q
   rcases hc with z | z
   · rw [z]; exact nit b u e
   · exact nit c _ z
end DD
namespace DD
open PySem PySem.Spec L2
open PyProof.Rows hiding St RelV
section
variable {g : G} {X : Cx} {pos : Pos}
end
end DD
namespace DD
open PySem PySem.Spec L2
open PyProof.Rows hiding St RelV
section
variable {g : G} {X : Cx} {pos : Pos} {es : List Expr} {es' : Es}
end
end DD
namespace DD
open PySem PySem.Spec L2
section
variable {prog : Program} {w : World} {A : Around} {E : Value → Shared → Prop} {s : Shared}
end
open PyProof.Rows hiding St RelV
variable {g : G} {X : Cx} {pos apos cpos : Pos} {F : Nat}
end DD
namespace DD
open PySem PySem.Spec L2
section
variable {prog : Program} {w : World} {A : Around} {E : Value → Shared → Prop}
end
end DD
namespace DD
open PySem PySem.Spec L2
open PyProof.Rows hiding St RelV
variable {g : G} {X : Cx} {pos apos cpos : Pos} {F : Nat}
end DD
namespace DD
open PySem PySem.Spec L2
open PyProof.Rows hiding St RelV
variable {g : G} {X : Cx} {pos apos cpos : Pos} {F : Nat}
end DD
namespace DD
open PySem PySem.Spec L2
open PyProof.Rows hiding St RelV
variable {g : G} {X : Cx} {pos apos cpos : Pos} {F : Nat}
section
variable {K : PySem.W.Frag} {cls : CW} {r : List Addr} {H H2 : Hp}
end
theorem abi {J : It} {ws : List D} {ok : Sto → Bool} {T : TG} {sf : D → Env → Option Env} {x' : Ss} {r1 : List Addr} {H1 : Hp} {D : Ends} {sg : L2.St} {st1 : Sto} {env : Env}
    (hJ : ∀ rho st H, g.Keep r1 H1 rho H → g.Sto rho st H → ok st = true → J.stop ws.length H ∧ ∀ (i : Nat) (d : DD.D), ws[i]? = some d → J.go i H ∧ ∀ x H', J.yld i H x H' → Bd H H' ∧ g.Rep rho H' d x)
    (hT : ∀ (rho : List Addr) (H : Hp) (Q : L2.St → Hp → Prop) (d : DD.D) (v : V) (env env' : Env) (sg : L2.St), sf d env = some env' → g.Rep rho H d v → g.Env rho H env sg → (∀ sg', g.Env rho H env' sg' → Q sg' H) → T v sg H Q)
    (s1 : g.Sto r1 st1 H1) (n1 : g.Env r1 H1 env sg) (q1 : RQ g (Ce ok (fun d env st => match sf d env with | some env' => An g.tab g.call F x' env' st | none => .bad) ws env st1) (Az g r1 H1 D) r1 H1) :
    ∃ W : Nat → Nat → L2.St → Hp → Prop, (∃ m, W 0 m sg H1) ∧ ∀ i m sg H, W i m sg H →
      (J.stop i H ∧ D.nx sg H) ∨ (J.go i H ∧ ∃ N : L2.St → Hp → Prop, (∀ sg' H', N sg' H' → ∃ m', m' < m ∧ W (i + 1) m' sg' H') ∧ ∀ x H', J.yld i H x H' → T x sg H' fun sg2 H2 => tSs g F x' { D with nx := N, ct := N, bk := D.nx } sg2 H2) := by
  refine ⟨fun i m sg H => m = ws.length - i ∧ i ≤ ws.length ∧ ∃ rho st env, g.Keep r1 H1 rho H ∧ g.Sto rho st H ∧ g.Env rho H env sg ∧ RQ g (Ce ok (fun d env st => match sf d env with | some env' => An g.tab g.call F x' env' st | none => .bad) (ws.drop i) env st) (Az g rho H D) rho H, ⟨ws.length, by simp, Nat.zero_le _, r1, st1, env, .refl _ _, s1, n1, q1⟩, ?_⟩
  rintro i m sg H ⟨rfl, hi, rho, st, env, kk, s, n, q⟩
  have hst : ok st = true := by
    cases z : ok st with
    | true => rfl
    | false =>
      exfalso
      cases e : ws.drop i with
      | nil => rw [e] at q; simp only [Ce, z] at q; exact q
      | cons d t => rw [e] at q; simp only [Ce, z] at q; exact q
  obtain ⟨h1, h2⟩ := hJ rho st H kk s hst
  by_cases hlt : i < ws.length
  · rw [List.drop_eq_getElem_cons hlt] at q
    simp only [Ce, hst, if_true] at q
    obtain ⟨hgo, hy⟩ := h2 i ws[i] (List.getElem?_eq_getElem hlt)
    refine .inr ⟨hgo, fun sg H => i + 1 ≤ ws.length ∧ ∃ rho st env, g.Keep r1 H1 rho H ∧ g.Sto rho st H ∧ g.Env rho H env sg ∧ RQ g (Ce ok (fun d env st => match sf d env with | some env' => An g.tab g.call F x' env' st | none => .bad) (ws.drop (i + 1)) env st) (Az g rho H D) rho H, fun sg' H' h => ⟨ws.length - (i + 1), by omega, rfl, h.1, h.2⟩, fun x H' y => ?_⟩
    obtain ⟨eS, rx⟩ := hy x H' y
    have k0 : g.Keep rho H rho H' := Bd.keep eS rho
    have q := RQ.mono k0 q fun f st p => Az.mono k0 p
    have kk := kk.trans k0
    have s := s.same eS
    have n := n.mono k0
    cases es : sf ws[i] env with
    | none => rw [es] at q; exact q.elim
    | some env1 =>
      rw [es] at q
      refine hT rho H' _ _ x env env1 sg es rx n fun sg1 n1 => ?_
      refine ⟨rho, st, env1, s, n1, ?_⟩
      revert q
      simp only
      cases An g.tab g.call F x' env1 st with
      | bad => exact fun q => q
      | exc c st2 => exact fun q => q
      | ok f st2 =>
        simp only [bc]
        cases f with
        | next env2 => exact fun q sg2 H2 r2 k2 s2 n2 => ⟨hlt, r2, st2, env2, kk.trans k2, s2, n2, RQ.mono k2 q fun f st p => Az.mono k2 p⟩
        | cont env2 => exact fun q sg2 H2 r2 k2 s2 n2 => ⟨hlt, r2, st2, env2, kk.trans k2, s2, n2, RQ.mono k2 q fun f st p => Az.mono k2 p⟩
        | brk env2 => exact fun q => q
        | ret d => exact fun q => q
  · have e : i = ws.length := by omega
    subst e
    refine .inl ⟨h1, ?_⟩
    rw [List.drop_eq_nil_of_le (Nat.le_refl _)] at q
    simp only [Ce, hst, if_true] at q
    exact (show Az g rho H D (.next env) st from q) sg H rho (.refl _ _) s n
end DD
namespace DD
open PySem PySem.Spec L2
open PyProof.Rows hiding St RelV
variable {g : G} {X : Cx} {pos apos cpos : Pos} {F : Nat}
theorem abj : bootBuiltins "zip" = some (.type "zip") := by decide +kernel
def tgZ (K : PySem.W.Frag) (t1 : List Nat) (o1 : Bool) (t2 : List Nat) (o2 : Bool) : TG := kh K 2 (Io (tg K t1 o1) (Io (tg K t2 o2) Kg))
theorem abk {rho : List Addr} {H : Hp} {Q : L2.St → Hp → Prop} {t1 t2 : List Nat} {o1 o2 : Bool} {d : D} {v : V} {env env' : Env} {sg : L2.St} (e : ft t1 o1 t2 o2 d env = some env') (r : g.Rep rho H d v) (n : g.Env rho H env sg) (h : ∀ sg', g.Env rho H env' sg' → Q sg' H) : tgZ g.K t1 o1 t2 o2 v sg H Q := by
 unfold ft at e
 split at e
 · rename_i x y
   obtain ⟨p, vs, rfl, sq, rl⟩ := br.mp r
   simp only [G.RepL, RepL] at rl
   obtain ⟨v1, w1, rfl, r1, v2, w2, rfl, r2, rfl⟩ := rl
   cases e1 : store t1 o1 x env with
   | none => rw [e1] at e; cases e
   | some env1 =>
    rw [e1, Option.bind_some] at e
    exact ⟨p, _, rfl, sq, rfl, v1, _, rfl, gx e1 r1 n fun sg1 n1 => ⟨v2, _, rfl, gx e r2 n1 fun sg2 n2 => ⟨rfl, h sg2 n2⟩⟩⟩
 · cases e
theorem abl {xs ys : List D} (h : xs.length ≤ ys.length) : (Ez xs ys).length = xs.length := by simp [Ez]; omega
end DD
namespace DD
open PySem PySem.Spec L2
open PyProof.Rows hiding St RelV
open PyProof.Rows.KTD (kt_dictFind_strs)
variable {g : G} {X : Cx} {pos apos cpos p p2 : Pos} {F : Nat} {a b : Expr} {a' b' : E}
def TabAt (K : PySem.W.Frag) (mg : Str → Option Value) (x : Str) (rows : List (Str × V)) : Prop := ∃ (a : Addr) (o : Obj) (es : Array DictEntry) (ep : Nat), mg x = some (.ref a) ∧ K.lookup a = some o ∧ o.ExactDict ∧ o.data = .dict es ep ∧ (a == sysModules) = false ∧ PyProof.Rows.KTD.Rows RelV es.toList rows
theorem abm {es : List DictEntry} {rows : List (Str × V)} (h : PyProof.Rows.KTD.Rows RelV es rows) : (es.all fun e => isExactStrKey e.key) = true := by
 induction h with
 | nil => rfl
 | cons hk _ _ ih => rw [List.all_cons, ih, hk]; rfl
theorem abn {es : List DictEntry} {rows : List (Str × V)} {z : Str} (h : PyProof.Rows.KTD.Rows RelV es rows) : (es.findIdx? fun e => e.key.isStr z).isSome = decide (z ∈ rows.map (·.1)) ∧ ∀ i, (es.findIdx? fun e => e.key.isStr z) = some i → ∃ e v, es[i]? = some e ∧ rows.lookup z = some v ∧ RelV v e.val := by
 induction h with
 | nil => exact ⟨by simp, fun i e => by simp at e⟩
 | @cons e x t d es rows hk hv hr ih =>
  have hs : e.key.isStr z = decide (z = x) := by
   rw [hk]
   simp only [Value.isStr]
   by_cases q : z = x
   · subst q; simp
   · rw [decide_eq_false q]
     simpa using fun w => q w.symm
  rw [List.findIdx?_cons, hs]
  by_cases q : z = x
  · subst q
    refine ⟨by simp, fun i h => ?_⟩
    simp at h
    subst h
    exact ⟨e, d, by simp, by simp [List.lookup], hv⟩
  · rw [decide_eq_false q]
    refine ⟨by simp [q, ih.1], fun i h => ?_⟩
    simp only [Bool.false_eq_true, if_false, Option.map_eq_some_iff] at h
    obtain ⟨j, h1, rfl⟩ := h
    obtain ⟨e2, v, g1, g2, g3⟩ := ih.2 j h1
    have hb : (z == x) = false := by simpa using q
    exact ⟨e2, v, by simpa using g1, by rw [List.lookup_cons, hb]; exact g2, g3⟩
section
variable {s : Shared} {E : Value → Shared → Prop} {A : Around}
theorem Qk {q : Addr} {o : Obj} {es : Array DictEntry} {ep : Nat} {rows : List (Str × V)} {z : Str} {t : Tok} {Q : Option Value → Shared → Prop} (ho : s.heap.get? q = some o) (hd : o.data = .dict es ep) (hr : PyProof.Rows.KTD.Rows RelV es.toList rows)
    (h1 : ∀ v u, rows.lookup z = some v → z ∈ rows.map (·.1) → RelV v u → Q (some u) { s with toks := s.toks + 1 }) (h2 : z ∉ rows.map (·.1) → Q none { s with toks := s.toks + 1 }) : wpAny (model X.prog X.w) A (dictGet q (.str z t)) Q E s := by
  unfold dictGet
  try with_reducible refine wpAny_holding ?_
  have hidx : (es.findIdx? fun e => e.key.isStr z) = es.toList.findIdx? fun e => e.key.isStr z := by obtain ⟨l⟩ := es; simp
  refine wpAny_bind (wpAny_pyHash_str (wpAny_bind (kt_dictFind_strs (s := { s with toks := s.toks + 1 }) ho hd (by obtain ⟨l⟩ := es; simpa using abm hr) ?_)))
  rw [hidx]
  obtain ⟨f1, f2⟩ := abn (z := z) hr
  cases hi : es.toList.findIdx? (fun e => e.key.isStr z) with
  | none =>
    rw [hi] at f1
    exact wpAny_pure (h2 (of_decide_eq_false f1.symm))
  | some i =>
    rw [hi] at f1
    obtain ⟨e, v, g1, g2, g3⟩ := f2 i hi
    refine wpAny_bind (wpAny_dictEntries (s := { s with toks := s.toks + 1 }) ho hd (wpAny_pure ?_))
    have : es[i]? = some e := by obtain ⟨l⟩ := es; simpa using g1
    rw [this]
    exact h1 v _ g2 (of_decide_eq_true f1.symm) g3
end
def abo (q : Addr) (rows : List (Str × V)) : R2 := fun x y H Q => ∃ z v, x = .ref q ∧ y = .str z ∧ rows.lookup z = some v ∧ Q v H
theorem ql {q : Addr} {o : Obj} {es : Array DictEntry} {ep : Nat} {rows : List (Str × V)} (hl : X.K.lookup q = some o) (hx : o.ExactDict) (hd : o.data = .dict es ep) (hr : PyProof.Rows.KTD.Rows RelV es.toList rows) : IxR X (abo q rows) := by
 intro value slice pins s sg H x y v u Q I rx ry h hs
 obtain ⟨z, w, rfl, rfl, hw, hq⟩ := h
 obtain rfl : v = Value.ref q := rx
 obtain ⟨t, rfl⟩ := (show ∃ t, u = Value.str z t from ry)
 have ho : s.heap.get? q = some o := I.kIn q o hl
 have hT : s.TypeIs (.ref q) "dict" := ⟨o, ho, hx.1⟩
 refine PyProof.Rows.tail_any hT PySem.F.slot_dict_getitem.lookup ?_ hs
 unfold getItem
 try with_reducible refine wpAny_holding ?_
 refine wpAny_bind (wpAny_sequenceKey hT (by decide) ?_)
 refine wpAny_bind (wpAny_callSpecial?_slot (name := Str.ofString "__getitem__") hT PySem.F.slot_dict_getitem (wpAny_call_entry PySem.F.slot_dict_getitem hT PySem.F.entry_dict_getitem ?_ (PySem.args_dict_getitem _ _)))
 show wpAny _ _ (dictGet q (.str z t) >>= _) _ _ s
 refine wpAny_bind (Qk (X := X) ho hd hr (fun w2 u hw2 _ r => wpAny_pure ⟨u, rfl, wpAny_pure ?_⟩) fun hn => ?_)
 · rw [hw] at hw2; cases hw2
   exact ⟨w, H, I.tok _, r, hq⟩
 · exfalso
   refine hn ?_
   clear hr hn
   induction rows with
   | nil => simp at hw
   | cons r t ih =>
    rw [List.lookup_cons] at hw
    by_cases e : z = r.1
    · simp [e]
    · have hb : (z == r.1) = false := by simpa using e
      rw [hb] at hw
      simp only [List.map_cons, List.mem_cons]
      exact .inr (ih hw)
def Ql (neg : Bool) (q : Addr) (ks : List Str) : R2 := fun x y H Q => ∃ z, x = .str z ∧ y = .ref q ∧ Q (.bl (xor neg (decide (z ∈ ks)))) H
theorem abp (neg : Bool) {q : Addr} {o : Obj} {es : Array DictEntry} {ep : Nat} {rows : List (Str × V)} (hl : X.K.lookup q = some o) (hx : o.ExactDict) (hd : o.data = .dict es ep) (hm : (q == sysModules) = false) (hr : PyProof.Rows.KTD.Rows RelV es.toList rows) : OpR X (compareOp (if neg then .NotIn else .In)) (Ql neg q (rows.map (·.1))) := by
 intro pins s sg H x y v u Q I rx ry h
 obtain ⟨z, rfl, rfl, hq⟩ := h
 obtain ⟨t, rfl⟩ := (show ∃ t, v = Value.str z t from rx)
 obtain rfl : u = Value.ref q := ry
 have ho : s.heap.get? q = some o := I.kIn q o hl
 have hT : s.TypeIs (.ref q) "dict" := ⟨o, ho, hx.1⟩
 have key : ∀ {Q2 : Bool → Shared → Prop}, (Q2 (decide (z ∈ rows.map (·.1))) { s with toks := s.toks + 1 }) → wpAny (model X.prog X.w) X.A (contains (.ref q) (.str z t)) Q2 X.xe s := by
  intro Q2 hq2
  unfold contains
  try with_reducible refine wpAny_holding ?_
  refine wpAny_bind (wpAny_specialOf hT PySem.F.slot_dict_contains.lookup ?_)
  show wpAny _ _ (if (some (Value.builtin "dict.__contains__") == some Value.none) = true then _ else _) _ _ s
  rw [if_neg (by rw [beq_builtin_none]; exact Bool.false_ne_true)]
  refine wpAny_bind (wpAny_callSpecialUnlessNone?_slot (name := Str.ofString "__contains__") hT PySem.F.slot_dict_contains (wpAny_call_entry PySem.F.slot_dict_contains hT PySem.F.entry_dict_contains ?_ (PySem.args_dict_contains _ _)))
  show wpAny _ _ (dictGet q (.str z t) >>= _) _ _ s
  refine wpAny_bind (Qk (X := X) ho hd hr (fun w2 u _ hz r => ?_) fun hn => ?_)
  · rw [decide_eq_true hz] at hq2
    show wpAny _ _ (ret (.bool true)) _ _ _
    exact wpAny_pure ⟨_, rfl, wpAny_truthy_bool hq2⟩
  · rw [decide_eq_false hn] at hq2
    show wpAny _ _ (Builtin.Dict.pendingKey? q (.str z t) >>= _) _ _ _
    exact wpAny_bind (wpAny_pendingKey_other hm (wpAny_pure ⟨_, rfl, wpAny_truthy_bool hq2⟩))
 cases neg with
 | false =>
  show wpAny _ _ (do return Value.bool (← contains (.ref q) (.str z t))) _ _ s
  exact wpAny_bind (key (wpAny_pure ⟨.bl _, H, I.tok _, rfl, by simpa using hq⟩))
 | true =>
  show wpAny _ _ (do return Value.bool (!(← contains (.ref q) (.str z t)))) _ _ s
  exact wpAny_bind (key (wpAny_pure ⟨.bl _, H, I.tok _, rfl, by simpa using hq⟩))
end DD
namespace DD
open PySem PySem.Spec L2
open PyProof.Rows hiding St RelV
variable {g : G} {X : Cx} {pos apos cpos p p2 : Pos} {F : Nat} {a b : Expr} {a' b' : E} {es : List Expr} {es' : Es}
theorem Bz {st : Stmt} : SdS g X F st (.unp [] (.cst .non)) := fun pins s sg H D I q => by
 obtain ⟨rho, st, env, S, n, q⟩ := q
 simp only [Al, aa, bc, store] at q
 exact q.elim
theorem Mc {α β : Type} (f : α → β) (z : Str) : ∀ rows : List (Str × α), (rows.map fun p => (p.1, f p.2)).lookup z = (rows.lookup z).map f
 | [] => rfl
 | r :: t => by
  rw [List.map_cons, List.lookup_cons, List.lookup_cons]
  cases h : z == r.1 with
  | true => rfl
  | false => exact Mc f z t
theorem abq {rho : List Addr} {H : Hp} {d : D} (h : kr d = true) : g.Rep rho H d (toV d) := by
 cases d <;> first | exact Cr.mpr rfl | exact az.mpr rfl | exact Aq.mpr rfl | exact Bk.mpr rfl | cases h
theorem lookup_mem {α : Type} {z : Str} {d : α} : ∀ {rows : List (Str × α)}, rows.lookup z = some d → ∃ r ∈ rows, r.2 = d
 | [], h => by simp at h
 | r :: t, h => by
  rw [List.lookup_cons] at h
  cases e : z == r.1 with
  | true => rw [e] at h; cases h; exact ⟨r, by simp, rfl⟩
  | false =>
   rw [e] at h
   obtain ⟨q, hq, hd⟩ := lookup_mem h
   exact ⟨q, List.mem_cons_of_mem _ hq, hd⟩
theorem qm {x : Str} {rows : List (Str × D)} (hg : Gl X x) (h : TabAt X.K X.mg x (rows.map fun p => (p.1, toV p.2))) (hf : (rows.all fun p => kr p.2) = true) (hb : Sd g X b b') (hs : Ir b) (hd : (x == ("__debug__" : Str)) = false := by decide) : Sd g X (.Subscript (.Name x p) b pos) (.tabV rows b') := by
 obtain ⟨q, o, es, ep, h1, h2, h3, h4, h5, h6⟩ := h
 refine Ay (Kp (ql h2 h3 h4 h6) (Il (v := .ref q) hg h1 rfl hd) hb hs) fun sg H Q q => ?_
 obtain ⟨rho, st, env, s, n, q⟩ := q
 simp only [aa] at q
 refine step s n q fun d st1 v H1 r1 k1 s1 n1 rp q1 => ?_
 cases d with
 | str z =>
  dsimp only at q1
  split at q1
  · rename_i d e
    obtain ⟨r, hr, rfl⟩ := lookup_mem e
    have hfl : kr r.2 = true := List.all_eq_true.mp hf r hr
    exact ⟨z, toV r.2, rfl, Bk.mp rp, by rw [Mc, e]; rfl, (show Ak g rho H Q r.2 st1 from q1) _ H1 r1 k1 s1 (abq hfl)⟩
  · exact q1.elim
 | _ => exact q1.elim
theorem abr {x : Str} {rows : List (Str × Nat)} (hg : Gl X x) (h : TabAt X.K X.mg x (rows.map fun p => (p.1, .ref (g.cls.fn p.2)))) (hb : Sd g X b b') (hs : Ir b) (hd : (x == ("__debug__" : Str)) = false := by decide) : Sd g X (.Subscript (.Name x p) b pos) (.tabF rows b') := by
 obtain ⟨q, o, es, ep, h1, h2, h3, h4, h5, h6⟩ := h
 refine Ay (Kp (ql h2 h3 h4 h6) (Il (v := .ref q) hg h1 rfl hd) hb hs) fun sg H Q q => ?_
 obtain ⟨rho, st, env, s, n, q⟩ := q
 simp only [aa] at q
 refine step s n q fun d st1 v H1 r1 k1 s1 n1 rp q1 => ?_
 cases d with
 | str z =>
  dsimp only at q1
  split at q1
  · rename_i i e
    obtain ⟨k2, s2⟩ := s1.alias (p := g.cls.fn i) (c := .fnc i) rfl rfl
    exact ⟨z, .ref (g.cls.fn i), rfl, Bk.mp rp, by rw [Mc (fun j => V.ref (g.cls.fn j)), e]; rfl, (show Ak g rho H Q (.loc st1.length) _ from q1) _ H1 _ (k1.trans k2) s2 (bb.mpr ⟨_, by rw [← s1.len]; simp, rfl⟩)⟩
  · exact q1.elim
 | _ => exact q1.elim
theorem abt {neg : Bool} {q : Addr} {ks : List Str} {sg : L2.St} {H : Hp} {Q : VK} (h : tE g (.tabIn neg ks a') sg H Q) : tOp (Ql neg q ks) (tE g a') (tC (.ref q)) sg H Q := by
 obtain ⟨rho, st, env, s, n, h⟩ := h
 simp only [aa] at h
 refine step s n h fun d st1 v H1 r1 k1 s1 n1 rp q1 => ?_
 cases d with
 | str z => exact ⟨z, Bk.mp rp, rfl, (show Ak g rho H Q (.bl _) st1 from q1) _ H1 r1 k1 s1 (az.mpr rfl)⟩
 | _ => exact q1.elim
theorem abu {neg : Bool} {ks : List Str} {sg : L2.St} {H : Hp} {Q : Bool → Hp → Prop} (q : tT g (.tabIn neg ks a') sg H Q) : tE g (.tabIn neg ks a') sg H (fun x H' => ∃ z, x = .bl z ∧ Q z H') := by
 obtain ⟨rho, st, env, s, n, q⟩ := q
 refine ⟨rho, st, env, s, n, ?_⟩
 simp only [Aj] at q
 simp only [aa]
 revert q
 cases aa g.tab g.call a' env st with
 | bad => exact fun q => q
 | exc c st1 => exact fun q => q
 | ok x st1 =>
  simp only [bc]
  cases x with
  | str z => exact fun q v H' rho' k1 s1 r1 => ⟨_, az.mp r1, (show Cq g rho H Q _ st1 from q) H' rho' k1 s1⟩
  | _ => exact fun q => q
theorem abv (neg : Bool) {x : Str} {rows : List (Str × V)} {ks : List Str} (hks : rows.map (·.1) = ks) (hg : Gl X x) (h : TabAt X.K X.mg x rows) (ha : Sd g X a a') (hd : (x == ("__debug__" : Str)) = false := by decide) (hm : behindInMarks (if neg then .NotIn else .In) (.Name x p) = false := by rfl) : SdT g X (.Compare a [if neg then .NotIn else .In] [.Name x p] pos) (.tabIn neg ks a') := by
 obtain ⟨q, o, es, ep, h1, h2, h3, h4, h5, h6⟩ := h
 subst hks
 exact dg (Ep (abp neg h2 h3 h4 h5 h6) ha (Il (v := .ref q) hg h1 rfl hd) hm) fun sg H Q q => abt (abu q)
theorem Qm {x : Str} {rows : List (Str × V)} {ks : List Str} (hks : rows.map (·.1) = ks) (hg : Gl X x) (h : TabAt X.K X.mg x rows) (ha : Sd g X a a') (hd : (x == ("__debug__" : Str)) = false := by decide) (hm : behindInMarks .NotIn (.Name x p) = false := by rfl) : SdT g X (.Compare a [.NotIn] [.Name x p] pos) (.tabIn true ks a') := abv true hks hg h ha hd hm
structure FnV (g : G) (X : Cx) (k np i : Nat) : Prop where
 ok : ∃ fd ps, FnOk X.prog X.w X.K X.mg X.base (CXd X.prog X.w) k (g.cls.fn i) fd ps (spD g.K g.cls np (g.call i)) ∧ Binds X.K fd ps []
 kp : PySem.W.keepIn X.K (.ref (g.cls.fn i)) = true
 len : ∀ ds st, ds.length ≠ np → g.call i ds st = .bad
theorem abw {k np : Nat} {is : List Nat} {x : Str} {f' : E} {e : Expr} (hF : ∀ i ∈ is, FnV g X k np i) (hr : Room k X.A) (hx : Passes (CXd X.prog X.w) X g.xk) (hf : Sd g X (.Name x p) f') (ha : SdL g X (e :: es) es')
    (he : starEach (e :: es) X.env = (false, eval e X.env) :: starEach es X.env := by rfl) (hpl : (backTo pos (starEach es X.env)).any (·.1) = false := by rfl) : Sd g X (.Call (.Name x p) (e :: es) [] pos) (.callV is f' es') := by
  intro pins s sg H Q I h
  obtain ⟨rho, st, env, S, n, q⟩ := h
  simp only [aa] at q
  refine wpAny_Call_Name_kw (thn (hf pins s sg H (fun v H1 => ∃ i, i ∈ is ∧ v = .ref (g.cls.fn i) ∧ ∃ r1 st1, g.Keep rho H r1 H1 ∧ g.Sto r1 st1 H1 ∧ g.Env r1 H1 env sg ∧ RQ g ((As g.tab g.call es' env st1).bind fun ds st => g.call i ds st) (Ak g rho H Q) r1 H1) I (step S n q fun d st1 x H1 r1 k1 s1 n1 rp q1 => ?_)) fun u s1 ⟨x, H1, I1, rx, i, hi, ex, r1, st1, k1, S1, n1, q1⟩ => ?_)
  · cases d with
    | loc m =>
      dsimp only at q1
      cases ec : st1[m]? with
      | none => rw [ec] at q1; exact q1.elim
      | some c =>
        rw [ec] at q1
        cases c with
        | fnc i =>
          dsimp only at q1
          split at q1
          · rename_i hc
            obtain ⟨a, hra, rfl⟩ := bb.mp rp
            have hca : a = g.cls.fn i := s1.cells m a (.fnc i) hra ec
            subst hca
            exact ⟨i, by simpa using hc, rfl, r1, st1, k1, s1, n1, q1⟩
          · exact q1.elim
        | _ => exact q1.elim
    | _ => exact q1.elim
  · subst ex
    obtain rfl : u = Value.ref (g.cls.fn i) := rx
    obtain ⟨⟨fd, ps, F, hb⟩, hk, hlen⟩ := hF i hi
    refine PySem.W.callWith_K (h₀ := X.base) I.ok.mod.kin hk (thn (ha pos pins s1 sg H1 (fun vs H2 => spD g.K g.cls np (g.call i) (vs ++ []) H2 Q g.xk) I1 ?_) fun us s2 ⟨vs, H2, I2, r, q2⟩ => ⟨I2.kIn, ?_⟩) he hpl
    · refine dq S1 n1 q1 fun ds st2 vs H2 r2 k2 s2 n2 rps q2 => ?_
      have hl : ds.length = np := Decidable.byContradiction fun z => by rw [hlen _ _ z] at q2; exact q2
      refine ⟨by rw [List.append_nil, ← rps.length]; exact hl, r2, st2, ds, s2, by rw [List.append_nil]; exact rps, ?_⟩
      revert q2
      cases g.call i ds st2 with
      | ok d st' => exact fun q v H' rho' k s' r => (show Ak g rho H Q d st' from q) v H' rho' ((k1.trans k2).trans k) s' r
      | exc c st' => exact fun q H' rho' k s' => q H' rho' k s'
      | bad => exact fun q => q
    · exact Km F hr hb (dvs := []) .nil hx I2 r q2
end DD
namespace DD
open PySem PySem.Spec L2
open PyProof.Rows hiding St RelV
section
variable {prog : Program} {w : World} {A : Around} {E : Value → Shared → Prop} {s : Shared}
theorem Qn {j t : Addr} {k : Nat} {cs : Array Value} {c : Value} {Q : Value → Shared → Prop} (hj : s.heap.IsTupleIter j t k) (ht : s.heap.IsTuple t cs) (hc : cs[k]? = some c)
    (q : ∀ h', h'.IsTupleIter j t (k + 1) → Heap.SameBut j s.heap h' → Q c { s with heap := h' }) : wpAny (model prog w) A (Builtin.SmallTypes.nextOf (.ref j)) Q E s := by
  obtain ⟨oj, e1, e2, e3⟩ := id hj
  obtain ⟨ot, f1, _, m, f2⟩ := ht
  unfold Builtin.SmallTypes.nextOf
  refine wpAny_bind (wpAny_callSpecial?_slot (name := Str.ofString "__next__") hj.typeIs F.slot_tuple_iterator_next (wpAny_call_entry F.slot_tuple_iterator_next hj.typeIs F.entry_tuple_iterator_next ?_ (F.args_tuple_iterator_next_1 _)))
  show wpAny _ _ (field (.ref j) 0 >>= _) _ _ s; refine wpAny_bind (wpAny_field e1 e3 (x := .ref t) rfl ?_)
  show wpAny _ _ (if (Value.ref t == Value.none) = true then _ else _) _ _ s; rw [if_neg (c := (Value.ref t == Value.none) = true) Bool.false_ne_true]
  show wpAny _ _ (field (.ref j) 1 >>= _) _ _ s; refine wpAny_bind (wpAny_field e1 e3 (x := .int k 0) rfl ?_)
  show wpAny _ _ (seqItems? (.ref t) >>= _) _ _ s; refine wpAny_bind (wpAny_seqItems f1 f2 ?_)
  simp only [Int.toNat_natCast, hc]
  refine wpAny_bind (wpAny_setField e1 e3 (by simp) (wpAny_pure ⟨c, rfl, wpAny_pure (q _ ⟨_, Heap.get?_update_self _ e1 (Obj.isFreed_of_fields (Obj.data_mapFields e3 _)), (Obj.cls_mapFields ..).trans e2, ?_⟩ (Heap.SameBut.update ..))⟩))
  rw [Obj.data_mapFields e3]; simp [rawInt]
theorem abx {j t : Addr} {k : Nat} {cs : Array Value} {Q : Value → Shared → Prop} (hh : A.handled = none) (hj : s.heap.IsTupleIter j t k) (ht : s.heap.IsTuple t cs) (hc : cs[k]? = none)
    (q : ∀ h' e, Heap.ExtBut j s.heap h' → (∃ o, h'.get? e = some o ∧ o.cls = .type "StopIteration") → E (.ref e) { s with heap := h' }) : wpAny (model prog w) A (Builtin.SmallTypes.nextOf (.ref j)) Q E s := by
  obtain ⟨oj, e1, e2, e3⟩ := id hj
  obtain ⟨ot, f1, _, m, f2⟩ := ht
  unfold Builtin.SmallTypes.nextOf
  refine wpAny_bind (wpAny_callSpecial?_slot (name := Str.ofString "__next__") hj.typeIs F.slot_tuple_iterator_next (wpAny_call_entry F.slot_tuple_iterator_next hj.typeIs F.entry_tuple_iterator_next ?_ (F.args_tuple_iterator_next_1 _)))
  show wpAny _ _ (field (.ref j) 0 >>= _) _ _ s; refine wpAny_bind (wpAny_field e1 e3 (x := .ref t) rfl ?_)
  show wpAny _ _ (if (Value.ref t == Value.none) = true then _ else _) _ _ s; rw [if_neg (c := (Value.ref t == Value.none) = true) Bool.false_ne_true]
  show wpAny _ _ (field (.ref j) 1 >>= _) _ _ s; refine wpAny_bind (wpAny_field e1 e3 (x := .int k 0) rfl ?_)
  show wpAny _ _ (seqItems? (.ref t) >>= _) _ _ s; refine wpAny_bind (wpAny_seqItems f1 f2 ?_)
  simp only [Int.toNat_natCast, hc]
  refine wpAny_bind (wpAny_rule (wpAny_bind (wpAny_setField e1 e3 (by simp) ?_))); show wpAny _ _ (newExc (.type "StopIteration") [] >>= _) _ _ _
  refine wpAny_bind ?_; simp only [newExc, newTuple]
  refine wpAny_bind (wpAny_newObj_type (wpAny_bind (m := firstArgMember _ _) (wpAny_of_eq (a := Value.none) (by first | rfl | (simp only [firstArgMember]; rfl)) (wpAny_newObj_type ?_ (by size_fits)))) (by size_fits))
  simp only [raiseNew]; refine wpAny_bind (wpAny_handled ?_); first | rw [show A.in1.handled = none from hh] | rw [hh]
  refine wpAny_bind (wpAny_pure (wpAny_throw ?_)); exact q _ _ (((Heap.SameBut.update ..).extBut.push _).push _) ⟨_, Heap.get?_push_size _ rfl, rfl⟩
def ji (l1 l2 z TI TO i1 i2 : Addr) (i : Nat) (h : Heap) : Prop := IsZip h z TI TO .none ∧ IsPair h TI (.ref i1) (.ref i2) ∧ (∃ a b, IsPair h TO a b) ∧ h.IsTupleIter i1 l1 i ∧ h.IsTupleIter i2 l2 i
theorem aby {z TI TO i1 i2 l1 l2 : Addr} {k : Nat} {xs ys : Array Value} {c d : Value} {Q : Option Value → Shared → Prop} (P : ZipApart z TI TO i1 i2 l1 l2) (st : ji l1 l2 z TI TO i1 i2 k s.heap) (t1 : s.heap.IsTuple l1 xs) (t2 : s.heap.IsTuple l2 ys) (hx : xs[k]? = some c) (hy : ys[k]? = some d)
    (q : ∀ h', IsZip h' z TI TO (rawInt s.heap.objs.size) → IsPair h' TI (.ref i1) (.ref i2) → IsPair h' TO c d → h'.IsTupleIter i1 l1 (k + 1) → h'.IsTupleIter i2 l2 (k + 1) → IsPair h' s.heap.objs.size c d → h'.objs.size = s.heap.objs.size + 1 →
      (∀ b o, b ≠ z → b ≠ TO → b ≠ i1 → b ≠ i2 → s.heap.get? b = some o → h'.get? b = some o) → Q (some (.ref s.heap.objs.size)) { s with heap := h' }) : wpAny (model prog w) A (pyNext (.ref z)) Q E s := by
  obtain ⟨hz, hTI, ⟨a0, b0, hTO⟩, j1, j2⟩ := st
  have hT : s.TypeIs (.ref z) "zip" := ⟨_, hz, rfl⟩
  unfold pyNext
  refine wpAny_bind (wpAny_attempt (wpAny_callSpecial?_slot (name := Str.ofString "__next__") hT F.slot_zip_next (wpAny_call_entry F.slot_zip_next hT F.entry_zip_next ?_ (F.args_zip_next_1 _))))
  show wpAny _ _ (field (.ref z) 2 >>= _) _ _ _; refine wpAny_bind (wpAny_field hz rfl (x := .bool false) rfl ?_)
  show wpAny _ _ (field (.ref z) 3 >>= _) _ _ _; refine wpAny_bind (wpAny_field hz rfl (x := .ref TI) rfl (wpAny_bind (wpAny_seqItems hTI rfl ?_)))
  show wpAny _ _ (Builtin.SmallTypes.ownedTupleIsFree (.ref z) >>= _) _ _ _; refine wpAny_bind ?_; unfold Builtin.SmallTypes.ownedTupleIsFree
  refine wpAny_bind (wpAny_field hz rfl (x := .none) rfl (wpAny_pure ?_)); simp only [if_true]
  refine wpAny_bind (wpAny_rule (wpAny_bind (wpAny_field hz rfl (x := .ref TO) rfl (wpAny_bind (wpAny_setField_rec hz (by simp) fun u1 z1 b1 => ?_)))))
  replace z1 : IsZip u1 z TI TO .ellipsis := z1
  refine wpAny_bind ?_; simp only [List.zipIdx_cons, List.zipIdx_nil, List.forIn_cons, List.forIn_nil]
  refine wpAny_bind (wpAny_bind (wpAny_onRaise ?_)); show wpAny _ _ (Builtin.SmallTypes.nextOf (.ref i1) >>= _) _ _ _
  refine wpAny_bind (Qn (j1.extBut b1.extBut P.i1z) (t1.extBut b1.extBut P.l1z) hx fun u2 j1b b2 => wpAny_pure ?_)
  have o2 : IsPair u2 TO a0 b0 := b2.extBut _ _ P.TOi1 (b1.extBut _ _ P.TOz hTO)
  refine wpAny_bind (wpAny_seqItems o2 rfl (wpAny_bind (wpAny_updateSeq_pair o2 fun u3 o3 b3 => ?_)))
  replace o3 : IsPair u3 TO c b0 := o3
  refine wpAny_bind (wpAny_letGo (wpAny_pure (wpAny_bind (wpAny_bind (wpAny_onRaise ?_))))); show wpAny _ _ (Builtin.SmallTypes.nextOf (.ref i2) >>= _) _ _ _
  refine wpAny_bind (Qn (((j2.extBut b1.extBut P.i2z).extBut b2.extBut P.i12.symm).extBut b3.extBut P.TOi2.symm) (((t2.extBut b1.extBut P.l2z).extBut b2.extBut P.l2i1).extBut b3.extBut P.l2TO) hy fun u4 j2b b4 => wpAny_pure ?_)
  have o4 : IsPair u4 TO c b0 := b4.extBut _ _ P.TOi2 o3
  refine wpAny_bind (wpAny_seqItems o4 rfl (wpAny_bind (wpAny_updateSeq_pair o4 fun u5 o5 b5 => ?_)))
  replace o5 : IsPair u5 TO c d := o5
  refine wpAny_bind (wpAny_letGo (wpAny_pure (wpAny_pure (wpAny_bind (wpAny_seqItems o5 rfl (wpAny_bind (wpAny_newTuple ?_)))))))
  have sz : u5.objs.size = s.heap.objs.size := by rw [b5.1, b4.1, b3.1, b2.1, b1.1]
  have z5 : IsZip u5 z TI TO .ellipsis := b5.extBut _ _ P.TOz.symm (b4.extBut _ _ P.i2z.symm (b3.extBut _ _ P.TOz.symm (b2.extBut _ _ P.i1z.symm z1)))
  have k5 : ∀ b o, b ≠ z → b ≠ TO → b ≠ i1 → b ≠ i2 → s.heap.get? b = some o → u5.get? b = some o := fun b o n1 n2 n3 n4 e => b5.extBut _ _ n2 (b4.extBut _ _ n4 (b3.extBut _ _ n2 (b2.extBut _ _ n3 (b1.extBut _ _ n1 e))))
  have j15 : u5.IsTupleIter i1 l1 (k + 1) := ((j1b.extBut b3.extBut P.TOi1.symm).extBut b4.extBut P.i12).extBut b5.extBut P.TOi1.symm
  have j25 : u5.IsTupleIter i2 l2 (k + 1) := j2b.extBut b5.extBut P.TOi2.symm
  have lz : z < u5.objs.size := Heap.lt_size z5
  show wpAny _ _ (Builtin.SmallTypes.ownedTupleHandOut (.ref z) (.ref u5.objs.size) >>= _) _ _ _; refine wpAny_bind ?_; unfold Builtin.SmallTypes.ownedTupleHandOut
  have z6 : IsZip (u5.push { cls := .type "tuple", data := .seq #[c, d] }) z TI TO .ellipsis := Heap.get?_push_of_some _ z5
  refine wpAny_bind (wpAny_setField_rec z6 (by simp) fun u7 z7 b7 => ?_)
  replace z7 : IsZip u7 z TI TO (rawInt u5.objs.size) := z7
  refine wpAny_setField_rec z7 (by simp) fun u8 z8 b8 => ?_
  replace z8 : IsZip u8 z TI TO (rawInt u5.objs.size) := z8
  have up : ∀ b o, b ≠ z → u5.get? b = some o → u8.get? b = some o := fun b o n e => b8.extBut _ _ n (b7.extBut _ _ n (Heap.get?_push_of_some _ e))
  have p8 : IsPair u8 u5.objs.size c d := b8.extBut _ _ (Nat.ne_of_gt lz) (b7.extBut _ _ (Nat.ne_of_gt lz) (Heap.get?_push_size _ rfl))
  have s8 : u8.objs.size = u5.objs.size + 1 := by rw [b8.1, b7.1, Heap.size_push]
  rw [sz] at z8 p8 s8
  refine wpAny_pure ⟨_, rfl, ?_⟩
  show wpAny _ _ (pure (some (Value.ref u5.objs.size))) _ _ _
  rw [sz]
  exact wpAny_pure (q u8 z8 (up _ _ P.TIz (k5 _ _ P.TIz P.TITO P.TIi1 P.TIi2 hTI)) (up _ _ P.TOz o5) (j15.at fun o e => up _ o P.i1z e) (j25.at fun o e => up _ o P.i2z e) p8 s8 fun b o n1 n2 n3 n4 e => up b o n1 (k5 b o n1 n2 n3 n4 e))
theorem abz {z TI TO i1 i2 l1 l2 : Addr} {k : Nat} {xs : Array Value} {Q : Option Value → Shared → Prop} (hh : A.handled = none) (P : ZipApart z TI TO i1 i2 l1 l2) (st : ji l1 l2 z TI TO i1 i2 k s.heap) (t1 : s.heap.IsTuple l1 xs) (hx : xs[k]? = none)
    (q : ∀ h', (∀ b o, b ≠ z → b ≠ TO → b ≠ i1 → b ≠ i2 → s.heap.get? b = some o → h'.get? b = some o) → Q none { s with heap := h' }) : wpAny (model prog w) A (pyNext (.ref z)) Q E s := by
  obtain ⟨hz, hTI, ⟨a0, b0, hTO⟩, j1, j2⟩ := st
  have hT : s.TypeIs (.ref z) "zip" := ⟨_, hz, rfl⟩
  unfold pyNext
  refine wpAny_bind (wpAny_attempt (wpAny_callSpecial?_slot (name := Str.ofString "__next__") hT F.slot_zip_next (wpAny_call_entry F.slot_zip_next hT F.entry_zip_next ?_ (F.args_zip_next_1 _))))
  show wpAny _ _ (field (.ref z) 2 >>= _) _ _ _; refine wpAny_bind (wpAny_field hz rfl (x := .bool false) rfl ?_)
  show wpAny _ _ (field (.ref z) 3 >>= _) _ _ _; refine wpAny_bind (wpAny_field hz rfl (x := .ref TI) rfl (wpAny_bind (wpAny_seqItems hTI rfl ?_)))
  show wpAny _ _ (Builtin.SmallTypes.ownedTupleIsFree (.ref z) >>= _) _ _ _; refine wpAny_bind ?_; unfold Builtin.SmallTypes.ownedTupleIsFree
  refine wpAny_bind (wpAny_field hz rfl (x := .none) rfl (wpAny_pure ?_)); simp only [if_true]
  refine wpAny_bind (wpAny_rule (wpAny_bind (wpAny_field hz rfl (x := .ref TO) rfl (wpAny_bind (wpAny_setField_rec hz (by simp) fun u1 z1 b1 => ?_)))))
  replace z1 : IsZip u1 z TI TO .ellipsis := z1
  refine wpAny_bind ?_; simp only [List.zipIdx_cons, List.zipIdx_nil, List.forIn_cons, List.forIn_nil]
  refine wpAny_bind (wpAny_bind (wpAny_onRaise ?_)); show wpAny _ _ (Builtin.SmallTypes.nextOf (.ref i1) >>= _) _ _ _
  refine wpAny_bind (abx hh (j1.extBut b1.extBut P.i1z) (t1.extBut b1.extBut P.l1z) hx fun u2 e b2 he => ?_)
  obtain ⟨oe, h1, h2⟩ := he
  have z2 : IsZip u2 z TI TO .ellipsis := b2 _ _ P.i1z.symm z1
  have ne : e ≠ z := fun x => by subst x; rw [z2] at h1; cases h1; simp at h2
  refine wpAny_setField_rec z2 (by simp) fun u3 _ b3 => ?_
  refine wpAny_bind (wpAny_isInstance (T := "StopIteration") (b := true) ⟨oe, b3.extBut _ _ ne h1, h2⟩ isSubtype_stop ?_)
  exact wpAny_pure (q _ fun b o n1 _ n3 _ x => b3.extBut _ _ n1 (b2 _ _ n3 (b1.extBut _ _ n1 x)))
abbrev zt1 (h : Heap) (l1 : Addr) : Heap := h.push { cls := .type "tuple_iterator", data := .fields #[.ref l1, .int 0 0] }
abbrev zt2 (h : Heap) (l1 l2 : Addr) : Heap := (zt1 h l1).push { cls := .type "tuple_iterator", data := .fields #[.ref l2, .int 0 0] }
abbrev zt3 (h : Heap) (l1 l2 : Addr) : Heap := (zt2 h l1 l2).push { cls := .type "tuple", data := .seq #[.ref h.objs.size, .ref (zt1 h l1).objs.size] }
abbrev zt4 (h : Heap) (l1 l2 : Addr) : Heap := (zt3 h l1 l2).push { cls := .type "tuple", data := .seq #[.none, .none] }
abbrev zt5 (h : Heap) (l1 l2 : Addr) : Heap := (zt4 h l1 l2).push { cls := .type "zip", data := .fields #[.none, .bool false, .bool false, .ref (zt2 h l1 l2).objs.size, .ref (zt3 h l1 l2).objs.size] }
theorem aca (l1 l2 : Addr) (xs ys : Array Value) : Meets (Builtin.«zip.__new__» ⟨[.type "zip", .ref l1, .ref l2], []⟩) (fun _ R s => s.heap.IsTuple l1 xs ∧ s.heap.IsTuple l2 ys ∧ R (.ok (.ret (.ref (zt4 s.heap l1 l2).objs.size))) { s with heap := zt5 s.heap l1 l2 }) :=
 .of_wp fun prog w A R s h => by
  obtain ⟨hp, gg, dd, tk, os⟩ := s; obtain ⟨h1, h2, h⟩ := h
  have y1 := sub_zip
  have y2 : Heap.IsTuple (Shared.heap ⟨hp, gg, dd, tk, os⟩) l1 xs := h1
  have y3 : Heap.IsTuple (Shared.heap ⟨hp.push { cls := .type "tuple_iterator", data := .fields #[.ref l1, .int 0 0] }, gg, dd, tk, os⟩) l2 ys := Heap.IsTuple.push h2 _
  wp_walk using wpAny_pyIter_tuple y2, wpAny_pyIter_tuple y3
  exact ⟨_, rfl, h⟩
theorem acb {l1 l2 : Addr} {xs ys : Array Value} {Q : Value → Shared → Prop} (t1 : s.heap.IsTuple l1 xs) (t2 : s.heap.IsTuple l2 ys)
    (h : ∀ h', ji l1 l2 (s.heap.objs.size + 4) (s.heap.objs.size + 2) (s.heap.objs.size + 3) s.heap.objs.size (s.heap.objs.size + 1) 0 h' → (∀ b o, s.heap.get? b = some o → h'.get? b = some o) → Q (.ref (s.heap.objs.size + 4)) { s with heap := h' }) : wpAny (model prog w) A (call (.type "zip") [.ref l1, .ref l2]) Q E s := by
  refine callType_new F.called_zip (by decide) (F.typeCall_zip_2 _ _) (F.newCall_zip_2 _ _) (fun obj => F.args_object_init_3 obj _ _) F.entry_zip_new (aca l1 l2 xs ys) ⟨t1, t2, ?_⟩
  have n1 : (zt1 s.heap l1).objs.size = s.heap.objs.size + 1 := Heap.size_push ..
  have n2 : (zt2 s.heap l1 l2).objs.size = s.heap.objs.size + 2 := by rw [Heap.size_push, n1]
  have n3 : (zt3 s.heap l1 l2).objs.size = s.heap.objs.size + 3 := by rw [Heap.size_push, n2]
  have n4 : (zt4 s.heap l1 l2).objs.size = s.heap.objs.size + 4 := by rw [Heap.size_push, n3]
  have a5 : (zt5 s.heap l1 l2).get? (zt4 s.heap l1 l2).objs.size = some _ := Heap.get?_push_size _ rfl
  have a4 : (zt5 s.heap l1 l2).get? (zt3 s.heap l1 l2).objs.size = some _ := Heap.get?_push_of_some _ (Heap.get?_push_size _ rfl)
  have a3 : (zt5 s.heap l1 l2).get? (zt2 s.heap l1 l2).objs.size = some _ := Heap.get?_push_of_some _ (Heap.get?_push_of_some _ (Heap.get?_push_size _ rfl))
  have a2 : (zt5 s.heap l1 l2).get? (zt1 s.heap l1).objs.size = some _ := Heap.get?_push_of_some _ (Heap.get?_push_of_some _ (Heap.get?_push_of_some _ (Heap.get?_push_size _ rfl)))
  have a1 : (zt5 s.heap l1 l2).get? s.heap.objs.size = some _ := Heap.get?_push_of_some _ (Heap.get?_push_of_some _ (Heap.get?_push_of_some _ (Heap.get?_push_of_some _ (Heap.get?_push_size _ rfl))))
  show _ ∧ _
  rw [n2, n3, n4] at a5
  rw [n1, n2] at a3
  rw [n3] at a4
  rw [n1] at a2
  rw [n4]
  exact ⟨⟨_, a5, rfl⟩, h _ ⟨a5, a3, ⟨_, _, a4⟩, ⟨_, a1, rfl, rfl⟩, ⟨_, a2, rfl, rfl⟩⟩ fun b o x => Heap.get?_push_of_some _ (Heap.get?_push_of_some _ (Heap.get?_push_of_some _ (Heap.get?_push_of_some _ (Heap.get?_push_of_some _ x))))⟩
end
end DD
namespace DD
open PySem PySem.Spec L2
open PyProof.Rows hiding St RelV
variable {g : G} {X : Cx} {pos apos cpos : Pos} {F : Nat}
def md (K : PySem.W.Frag) (a b : Addr) : It :=
 ⟨fun i H => ∃ xs ys x y, SqT K H a xs ∧ SqT K H b ys ∧ xs[i]? = some x ∧ ys[i]? = some y, fun i H x H' => ∃ c v w, x = .ref c ∧ H c = none ∧ H' = upd H c (.tup [v, w]) ∧ (∀ xs, SqT K H a xs → xs[i]? = some v) ∧ ∀ ys, SqT K H b ys → ys[i]? = some w, fun i H => ∃ xs, SqT K H a xs ∧ xs.length ≤ i⟩
theorem acd {P : Program} {w : World} {K : PySem.W.Frag} {elts : List Expr} {x1} {pt : Pos} {l1 l2 z TI TO i1 i2 : Addr} (D : ZipApart z TI TO i1 i2 l1 l2) : Turn P w K (.Tuple elts x1 pt) (md K l1 l2) [z, TI, TO, i1, i2] z (ji l1 l2 z TI TO i1 i2) where
 mem := by simp
 obj := fun i h st b hb => by
  obtain ⟨hz, hTI, ⟨a0, b0, hTO⟩, ⟨o1, h1, c1, d1⟩, ⟨o2, h2, c2, d2⟩⟩ := st
  simp only [List.mem_cons, List.not_mem_nil, or_false] at hb
  rcases hb with rfl | rfl | rfl | rfl | rfl
  · exact ⟨_, hz, fun v z => by cases z⟩
  · exact ⟨_, hTI, fun v z => by cases z⟩
  · exact ⟨_, hTO, fun v z => by cases z⟩
  · exact ⟨o1, h1, fun v z => by rw [d1] at z; cases z⟩
  · exact ⟨o2, h2, fun v z => by rw [d2] at z; cases z⟩
 keep := fun i h h' st k => by
  obtain ⟨hz, hTI, ⟨a0, b0, hTO⟩, h1, h2⟩ := st
  exact ⟨k z (by simp) _ hz, k TI (by simp) _ hTI, ⟨a0, b0, k TO (by simp) _ hTO⟩, h1.at fun o q => k i1 (by simp) o q, h2.at fun o q => k i2 (by simp) o q⟩
 item := by
  intro X hP hw hK hc i pins s sg H E I hf st hg
  subst hP hw hK
  obtain ⟨xs, ys, x, y, hq1, hq2, hx, hy⟩ := hg
  obtain ⟨its1, rv1, p1, hz1⟩ := I.tuple hq1
  obtain ⟨its2, rv2, p2, hz2⟩ := I.tuple hq2
  obtain ⟨u1, hu1, ru1⟩ := rv1.get hx
  obtain ⟨u2, hu2, ru2⟩ := rv2.get hy
  refine aby D st p1 p2 (c := u1) (d := u2) (by simpa using hu1) (by simpa using hu2) fun h' hz' hTI' hTO' h1' h2' hT hsz hk => ?_
  obtain ⟨hz, hTI, ⟨a0, b0, hTO⟩, h1, h2⟩ := st
  refine ⟨_, rfl, wpAny_letOwnedTupleGo_zip hz' fun h3 hz3 hs3 => ?_⟩
  have hlt : ∀ b ∈ [z, TI, TO, i1, i2], b < s.heap.objs.size := fun b hb => by
   simp only [List.mem_cons, List.not_mem_nil, or_false] at hb
   rcases hb with rfl | rfl | rfl | rfl | rfl
   · exact Heap.lt_size hz
   · exact Heap.lt_size hTI
   · exact Heap.lt_size hTO
   · obtain ⟨o, q, _⟩ := h1; exact Heap.lt_size q
   · obtain ⟨o, q, _⟩ := h2; exact Heap.lt_size q
  have hne : ∀ b ∈ [z, TI, TO, i1, i2], b ≠ s.heap.objs.size := fun b hb => Nat.ne_of_lt (hlt b hb)
  have hn : H s.heap.objs.size = none := I.hok.fresh (Nat.le_refl _)
  have I1 := I.laid (a := s.heap.objs.size) (o := .tup [x, y]) (h' := s.heap.push { cls := .type "tuple", data := .seq #[u1, u2] }) (t' := s.toks) (fun b u e => Heap.get?_push_of_some _ e) (Nat.le_refl _)
   ⟨by rw [sizeLine_eq]; simp, [u1, u2], .cons ru1 (.cons ru2 .nil), ⟨_, Heap.get?_push_size _ rfl, rfl, _, rfl⟩⟩
  have hf1 : ∀ b ∈ [z, TI, TO, i1, i2], ck X pins (upd H s.heap.objs.size (.tup [x, y])) b := fun b hb => ⟨by rw [bj (hne b hb)]; exact (hf b hb).1, (hf b hb).2⟩
  have I2 := qk (t' := s.toks) (h' := h3) I1 hf1 fun b o hb q => by
   have hbz : b ≠ z := fun e => hb (by simp [e])
   by_cases hbs : b = s.heap.objs.size
   · subst hbs
     rw [Heap.get?_push_size _ rfl] at q
     cases q
     exact (hs3.2 _ hbz).trans hT
   · have q' : s.heap.get? b = some o := (Heap.get?_push_cases q).elim (fun e => absurd e.1 hbs) id
     exact (hs3.2 _ hbz).trans (hk b o hbz (fun e => hb (by simp [e])) (fun e => hb (by simp [e])) (fun e => hb (by simp [e])) q')
  refine ⟨.ref s.heap.objs.size, _, I2, rfl, ⟨_, x, y, rfl, hn, rfl, fun zs hq => by rw [I.tuple_inj hq hq1]; exact hx, fun zs hq => by rw [I.tuple_inj hq hq2]; exact hy⟩, ⟨hz3, (hs3.2 _ D.TIz).trans hTI', ⟨_, _, (hs3.2 _ D.TOz).trans hTO'⟩, h1'.at fun o q => (hs3.2 _ D.i1z).trans q, h2'.at fun o q => (hs3.2 _ D.i2z).trans q⟩, fun b hb => (hf1 b hb).1⟩
 done := by
  intro X hP hw hK hc i pins s sg H E I hf st hg
  subst hP hw hK
  obtain ⟨xs, hq1, hx⟩ := hg
  obtain ⟨its1, rv1, p1, hz1⟩ := I.tuple hq1
  have hl := rv1.length
  exact abz (I.ok.hd hc) D st p1 (by simp; omega) fun h' hk => ⟨rfl, qk (t' := s.toks) I hf fun b o hb q => hk b o (fun e => hb (by simp [e])) (fun e => hb (by simp [e])) (fun e => hb (by simp [e])) (fun e => hb (by simp [e])) q⟩
 self := fun _ i s Q E st h => wpAny_pyIter_zip st.1 h
def ace (K : PySem.W.Frag) (ta : TA) : TI := fun sg H R => ta sg H fun vs H1 => ∃ a b, vs = [.ref a, .ref b] ∧ (∃ xs, SqT K H1 a xs) ∧ (∃ ys, SqT K H1 b ys) ∧ R (md K a b) H1
theorem acf {l m : Expr} {ta : TA} {elts : List Expr} {x1} {pt p pos : Pos} (hg : Gl X "zip") (hm : X.mg "zip" = none) (ha : PA X [l, m] ta) (hs : starEach [l, m] X.env = [(false, eval l X.env), (false, eval m X.env)] := by rfl) (hs2 : starEach [m] X.env = [(false, eval m X.env)] := by rfl) : PI X (.Tuple elts x1 pt) (.Call (.Name "zip" p) [l, m] [] pos) (ace X.K ta) := by
 intro pins s sg H R I h
 refine Call_ (fk I hg hm abj (PyProof.Rows.callWith_type1 (thn (ha pos pins s sg H _ I h) fun us s1 ⟨vs, H1, I1, r1, q1⟩ => ?_) (by rw [hs, hs2]) (by rw [hs2]; rfl)))
 obtain ⟨a, b, e, ⟨xs, hq1⟩, ⟨ys, hq2⟩, q⟩ := q1
 subst e
 cases r1 with
 | cons r rr =>
  cases rr with
  | cons r' rr =>
  cases rr
  cases r
  cases r'
  obtain ⟨its1, rv1, p1, hz1⟩ := I1.tuple hq1
  obtain ⟨its2, rv2, p2, hz2⟩ := I1.tuple hq2
  have a1 : a < s1.heap.objs.size := by obtain ⟨o, q, _⟩ := p1; exact Heap.lt_size q
  have a2 : b < s1.heap.objs.size := by obtain ⟨o, q, _⟩ := p2; exact Heap.lt_size q
  refine acb p1 p2 fun h' hst hk => wpAny_pyIter_zip hst.1 ?_
  refine ⟨_, [s1.heap.objs.size + 4, s1.heap.objs.size + 2, s1.heap.objs.size + 3, s1.heap.objs.size, s1.heap.objs.size + 1], _, _, H1, rfl, I1.kept (t' := s1.toks) hk, acd (zipApart_new a1 a2), hst, fun c hc => ?_, q⟩
  have hc : s1.heap.objs.size ≤ c := by
   simp only [List.mem_cons, List.not_mem_nil, or_false] at hc
   rcases hc with e | e | e | e | e <;> rw [e] <;> first | exact Nat.le_add_right _ _ | exact Nat.le_refl _
  exact I1.fpOk hc (I1.hok.fresh hc)
theorem acg {t1 t2 : List Nat} {o1 o2 : Bool} {elts : List Expr} {x1} {pt p pos2 : Pos} {l m : Expr} {body : List Stmt} {x' : Ss} {l' m' : E} (hK : X.K = g.K) (hp : PassesOwn (model X.prog X.w) X.A X.env X.xe) (hc : X.calm = true) (hg : Gl X "zip") (hm : X.mg "zip" = none) (ha : Sd g X l l') (hb : Sd g X m m') (ht : PG X (.Tuple elts x1 pt) (tgZ g.K t1 o1 t2 o2)) (hx : Dc g X F body x')
    (he : starEach [l, m] X.env = [(false, eval l X.env), (false, eval m X.env)] := by rfl) (he2 : starEach [m] X.env = [(false, eval m X.env)] := by rfl) (hs : ∀ x, foldedSetIterable (.Call (.Name "zip" p) [l, m] [] pos) X.env x = pure x := by intro _; rfl) : SdS g X F (.For (.Tuple elts x1 pt) (.Call (.Name "zip" p) [l, m] [] pos) body [] pos2) (.forZT t1 o1 t2 o2 l' m' x') :=
  cy (Ip hp hc (acf hg hm (Aa ha (Aa hb Ad he2) (by rw [he, he2])) he he2) ht hx hs) fun D sg H q => by
  obtain ⟨rho, st, env, s, n, q⟩ := q
  simp only [Al] at q
  refine Oy s n q fun ds st1 vs H1 r1 hl k1 s1 n1 rps q1 => ?_
  split at q1
  · rename_i xs ys
    simp only [G.RepL, RepL] at rps
    obtain ⟨v1, w1, rfl, rp1, v2, w2, rfl, rp2, rfl⟩ := rps
    split at q1
    · rename_i hle
      obtain ⟨a, vs, rfl, sq1, rl1⟩ := br.mp rp1
      obtain ⟨b, ws, rfl, sq2, rl2⟩ := br.mp rp2
      refine ⟨a, b, rfl, ⟨vs, by rw [hK]; exact sq1⟩, ⟨ws, by rw [hK]; exact sq2⟩, ?_⟩
      rw [hK]
      refine abi (J := md g.K a b) (ws := Ez xs ys) (sf := fun d env => ft t1 o1 t2 o2 d env) (fun rho st H kk s hst => ?_) (fun rho H Q d v env env' sg e r n h => abk e r n h) s1 n1 (RQ.mono (.refl _ _) q1 fun f st p => Az.mono k1 p)
      have sq3 := kk.tup a vs sq1
      have sq4 := kk.tup b ws sq2
      have rl3 := rl1.mono kk
      have rl4 := rl2.mono kk
      refine ⟨⟨vs, sq3, by rw [abl hle, rl3.length]; exact Nat.le_refl _⟩, fun k d hd => ?_⟩
      simp only [Ez, List.getElem?_zipWith] at hd
      cases hx1 : xs[k]? with
      | none => rw [hx1] at hd; simp at hd
      | some x =>
        cases hy1 : ys[k]? with
        | none => rw [hx1, hy1] at hd; simp at hd
        | some y =>
          rw [hx1, hy1] at hd
          simp at hd
          subst hd
          obtain ⟨v, hv, rv⟩ := rl3.get hx1
          obtain ⟨w, hw, rw1⟩ := rl4.get hy1
          refine ⟨⟨vs, ws, v, w, sq3, sq4, hv, hw⟩, fun x0 H' yy => ?_⟩
          obtain ⟨c, v', w', rfl, hcn, rfl, z1, z2⟩ := yy
          have z1 := z1 _ sq3
          have z2 := z2 _ sq4
          rw [hv] at z1; cases z1
          rw [hw] at z2; cases z2
          have eS := Fb hcn (.tup [v, w])
          have k0 : g.Keep rho H rho _ := Bd.keep eS rho
          exact ⟨eS, br.mpr ⟨c, _, rfl, SqT.of cj, by simp only [G.RepL, RepL]; exact ⟨_, _, rfl, rv.mono k0, _, _, rfl, rw1.mono k0, rfl⟩⟩⟩
    · exact q1.elim
  · exact q1.elim
end DD
namespace DD
open PySem PySem.Spec L2
open PyProof.Rows hiding St RelV
variable {g : G} {X : Cx} {pos apos cpos : Pos} {F : Nat}
theorem ach {body : List Stmt} {h0 : ExceptHandler} {hs : List ExceptHandler} {b' : Ss}
    (hb : ∀ (pn : List (Addr × Obj)) (xe0 : Value → Shared → Prop), PassesOwn (model X.prog X.w) X.A X.env xe0 → Dc (g.with fun _ _ _ => False) (Cx.tr X pn xe0) F body b') :
    SdS g X F (.Try body (h0 :: hs) [] [] pos) (.tryS b' 0 0 (.cons (.unp [] (.cst .non)) .nil)) := by
  intro pins s sg H D I h
  obtain ⟨rho, st, env, S, n, q⟩ := h
  simp only [Al] at q
  have h : tSs (g.with fun _ _ _ => False) F b' D sg H := by
    refine ⟨rho, st, env, S, n, ?_⟩
    show RQ (g.with fun _ _ _ => False) (An g.tab g.call F b' env st) _ rho H
    revert q
    cases An g.tab g.call F b' env st with
    | bad => exact fun q => q
    | ok f st1 =>
      intro q
      cases f <;> exact q
    | exc k st1 =>
      intro q
      exfalso
      revert q
      simp only [An, Al, aa, bc, store]
      repeat' split
      all_goals first | exact fun q => q | (intro q; simp_all) | skip
  refine wpAny_Try_except ?_
  refine wpAny_mono (hb (X.pn ++ pins) _ PassesOwn.looking [] s sg H D (Xi I) h) (fun f s1 q => ?_) (fun e s1 q => q)
  cases f with
  | next => obtain ⟨sg1, H1, I1, q⟩ := q; exact wpAny_execs_nil ⟨sg1, H1, Iy I1, q⟩
  | brk => obtain ⟨sg1, H1, I1, q⟩ := q; exact ⟨sg1, H1, Iy I1, q⟩
  | cont => obtain ⟨sg1, H1, I1, q⟩ := q; exact ⟨sg1, H1, Iy I1, q⟩
  | ret v => obtain ⟨x1, sg1, H1, I1, r1, q⟩ := q; exact ⟨x1, sg1, H1, Iy I1, r1, q⟩
end DD
namespace My
open PySem PySem.Spec L2 DD
open PyProof.Rows hiding St
noncomputable def top (i : Nat) : Stmt := PySem.Challenge.pw_partproof_k41_hits_misses_needs.main.body.getD i (.Pass ⟨0, 0, 0, 0⟩)
noncomputable def aci : Stmt → List Stmt
 | .ClassDef _ _ _ b _ _ _ _ _ _ _ => b
 | _ => []
noncomputable def Ds (i j : Nat) : Stmt := (aci (top i)).getD j (.Pass ⟨0, 0, 0, 0⟩)
abbrev Lv (s : Stmt) (x : String) : Prop := (Ao s).names.lookup (Str.ofString x) = some NameKind.local
abbrev fO (x q : Str) (s : Stmt) := PySem.W.fnOf x q (gu s) (er s) (Ao s)
theorem Ic {P : Program} {w : World} {X : Cx} : Passes (CXd P w) X (fun _ _ _ => False) := fun _ _ _ _ _ _ _ ⟨_, _, _, _, _, _, _, h⟩ => h.elim
abbrev fx : Stmt := top 2
abbrev Fx : Stmt := top 3
abbrev fy : Stmt := top 4
abbrev Fy : Stmt := top 5
abbrev Fz : Stmt := top 12
abbrev Eg : Stmt := top 13
abbrev fg : Stmt := top 14
abbrev Ga : Stmt := top 21
abbrev gb : Stmt := top 22
abbrev Gb : Stmt := top 23
abbrev gc : Stmt := top 24
abbrev gd : Stmt := top 25
abbrev Gd : Stmt := top 26
abbrev dk : Stmt := top 27
abbrev Ge : Stmt := top 28
abbrev gf : Stmt := top 29
abbrev Gf : Stmt := top 30
abbrev Gg : Stmt := top 31
abbrev Cz : Stmt := Ds 32 0
abbrev Fg : Stmt := Ds 32 6
abbrev fh : Stmt := Ds 32 8
abbrev gh : Stmt := top 36
abbrev Fh : Stmt := top 37
abbrev Dk : Stmt := top 38
abbrev Dd : Stmt := top 39
abbrev Gh : Stmt := top 40
abbrev Eh : Stmt := top 41
abbrev Ei : Stmt := top 42
abbrev ej : Stmt := top 43
abbrev de : Stmt := top 44
abbrev Ej : Stmt := top 45
abbrev Ek : Stmt := top 46
abbrev Fi : Stmt := top 50
abbrev dt : Stmt := top 51
abbrev Dt : Stmt := top 53
abbrev De : Stmt := top 56
abbrev gi : Stmt := top 57
abbrev El : Stmt := top 58
abbrev df : Stmt := top 59
abbrev Dl : Stmt := top 60
abbrev dm : Stmt := top 61
abbrev Em : Stmt := top 62
abbrev Cs : Stmt := top 63
noncomputable def acj : Ss := (.cons (.whileS (.cst (.bl true)) (.cons .pass .nil)) .nil)
noncomputable def qo : Ss := (.cons (.ret (.andE (.cm .eq (.ix (.var 0) (.cst (.int 0))) (.cst (.str (Str.ofString "read")))) (.cm .eq (.ix (.ix (.var 0) (.cst (.int 1))) (.cst (.int 0))) (.cst (.str (Str.ofString "put")))))) .nil)
noncomputable def Qo : Ss := (.cons (.ret (.ix (.ix (.var 0) (.cst (.int 1))) (.cst (.int 3)))) .nil)
noncomputable def qp : Ss := (.cons (.ret (.tupE (.cons (.cst (.str (Str.ofString "read"))) (.cons (.ix (.ix (.var 0) (.cst (.int 1))) (.cst (.int 1))) (.cons (.ix (.var 0) (.cst (.int 2))) .nil))))) .nil)
noncomputable def Qp : Ss := (.cons (.ret (.tupE (.cons (.cst (.str (Str.ofString "same"))) (.cons (.ix (.var 0) (.cst (.int 2))) (.cons (.ix (.ix (.var 0) (.cst (.int 1))) (.cst (.int 2))) .nil))))) .nil)
noncomputable def qq : Ss := (.cons (.ret (.andE (.isi (.var 0) (.b "int")) (.notE (.isi (.var 0) (.b "bool"))))) .nil)
noncomputable def Qq : Ss := (.cons (.ifS (.orE (.notE (.isi (.var 0) (.b "tuple"))) (.cm .ne (.bt .lenB (.cons (.var 0) .nil)) (.cst (.int 2)))) (.cons (.ret (.cst (.bl false))) .nil) .nil) (.cons (.unp [1, 2] (.var 0)) (.cons (.ifS (.orE (.notE (.call 5 (.cons (.var 1) .nil) [])) (.notE (.call 5 (.cons (.var 2) .nil) []))) (.cons (.ret (.cst (.bl false))) .nil) .nil) (.cons (.ret (.andE (.cm .ge (.var 2) (.cst (.int 1))) (.cm .eq (.call 7 (.cons (.var 1) (.cons (.var 2) .nil)) []) (.cst (.int 1))))) .nil))))
noncomputable def qr : Ss := (.cons (.par 0 1 (.bt .absB (.cons (.var 0) .nil)) (.bt .absB (.cons (.var 1) .nil))) (.cons (.whileS (.cm .ne (.var 1) (.cst (.int 0))) (.cons (.par 0 1 (.var 1) (.op .mod (.var 0) (.var 1))) .nil)) (.cons (.ret (.var 0)) .nil)))
noncomputable def Qr : Ss := (.cons (.ifS (.orE (.notE (.isi (.var 0) (.b "str"))) (.notE (.chn .le .le (.cst (.int 1)) (.bt .lenB (.cons (.var 0) .nil)) (.cst (.int 8))))) (.cons (.ret (.cst (.bl false))) .nil) .nil) (.cons (.ret (.bt .allB (.cons (.comp 3 true 1 [0] [] (.var 0) .nil (.cm .inL (.var 0) (.cst (.str (Str.ofString "abcdefghijklmnopqrstuvwxyz"))))) .nil))) .nil))
noncomputable def Qs : Ss := (.cons (.ret (.andE (.isi (.var 0) (.b "tuple")) (.andE (.cm .eq (.bt .lenB (.cons (.var 0) .nil)) (.cst (.int 3))) (.call 8 (.cons (.ix (.var 0) (.cst (.int 0))) .nil) [])))) .nil)
noncomputable def qt : Ss := (.cons (.ret (.andE (.isi (.var 0) (.b "str")) (.cm .inL (.var 0) (.tupE (.cons (.cst (.str (Str.ofString "num"))) (.cons (.cst (.str (Str.ofString "thing"))) .nil)))))) .nil)
noncomputable def Qt : Ss := (.cons (.ret (.andE (.isi (.var 0) (.b "list")) (.bt .allB (.cons (.comp 0 true 1 [0] [] (.var 0) .nil (.call 8 (.cons (.var 0) .nil) [])) .nil)))) .nil)
noncomputable def qu : Ss := (.cons (.ifS (.orE (.notE (.call 9 (.cons (.var 0) .nil) [])) (.orE (.notE (.call 5 (.cons (.ix (.var 0) (.cst (.int 1))) .nil) [])) (.notE (.call 5 (.cons (.ix (.var 0) (.cst (.int 2))) .nil) [])))) (.cons (.ret (.cst (.bl false))) .nil) .nil) (.cons (.ret (.chn .le .le (.ix (.var 0) (.cst (.int 1))) (.ix (.var 0) (.cst (.int 2))) (.op .add (.ix (.var 0) (.cst (.int 1))) (.cst (.int 60))))) .nil))
noncomputable def Qu : Ss := (.cons (.ifS (.orE (.notE (.call 9 (.cons (.var 0) .nil) [])) (.orE (.notE (.isi (.ix (.var 0) (.cst (.int 1))) (.b "tuple"))) (.notE (.call 10 (.cons (.ix (.var 0) (.cst (.int 2))) .nil) [])))) (.cons (.ret (.cst (.bl false))) .nil) .nil) (.cons (.ret (.andE (.chn .le .le (.cst (.int 1)) (.bt .lenB (.cons (.ix (.var 0) (.cst (.int 1))) .nil)) (.cst (.int 3))) (.bt .allB (.cons (.comp 1 true 1 [0] [] (.ix (.var 0) (.cst (.int 1))) .nil (.call 10 (.cons (.var 0) .nil) [])) .nil)))) .nil))
noncomputable def qv : Ss := (.cons (.ifS (.orE (.notE (.isi (.var 0) (.b "list"))) (.notE (.bt .allB (.cons (.comp 0 true 1 [0] [] (.var 0) .nil (.call 12 (.cons (.var 0) .nil) [])) .nil)))) (.cons (.unp [] (.cst .non)) .nil) .nil) (.cons (.set 1 (.cst (.int 1))) (.cons (.forS [2, 3, 4] false false (.var 0) (.cons (.aug 1 .mul (.op .add (.op .sub (.var 4) (.var 3)) (.cst (.int 1)))) .nil)) (.cons (.ifS (.cm .gt (.var 1) (.cst (.int 3600))) (.cons (.unp [] (.cst .non)) .nil) .nil) .nil))))
noncomputable def qw : Ss := (.cons (.ifS (.orE (.notE (.isi (.var 0) (.b "list"))) (.notE (.bt .allB (.cons (.comp 0 true 1 [0] [] (.var 0) .nil (.call 13 (.cons (.var 0) .nil) [])) .nil)))) (.cons (.unp [] (.cst .non)) .nil) .nil) .nil)
noncomputable def Qw : Ss := (.cons (.ifS (.notE (.call 11 (.cons (.var 0) .nil) [])) (.cons (.unp [] (.cst .non)) .nil) .nil) .nil)
noncomputable def qx : Ss := (.cons (.ret (.comp 0 true 1 [0] [] (.var 0) .nil (.ix (.var 0) (.cst (.int 0))))) .nil)
noncomputable def Qx : Ss := (.cons (.ifS (.cm .ne (.bt .lenSetB (.cons (.var 0) .nil)) (.bt .lenB (.cons (.var 0) .nil))) (.cons (.unp [] (.cst .non)) .nil) .nil) .nil)
noncomputable def qy : Ss := (.cons (.forS [6] true true (.tupE (.cons (.var 1) (.cons (.var 3) (.cons (.var 5) .nil)))) (.cons (.ex (.call 16 (.cons (.var 6) .nil) [])) .nil)) (.cons (.ex (.call 14 (.cons (.var 2) .nil) [])) (.cons (.ex (.call 15 (.cons (.var 4) .nil) [])) (.cons (.ex (.call 18 (.cons (.op .add (.op .add (.op .add (.op .add (.var 1) (.call 17 (.cons (.var 2) .nil) [])) (.var 3)) (.call 17 (.cons (.var 4) .nil) [])) (.var 5)) .nil) [])) (.cons (.setf 4 (.var 0) (Str.ofString "numbers") (.bt .listB (.cons (.var 1) .nil))) (.cons (.setf 4 (.var 0) (Str.ofString "wholes") (.bt .listB (.cons (.var 2) .nil))) (.cons (.setf 4 (.var 0) (Str.ofString "things") (.bt .listB (.cons (.var 3) .nil))) (.cons (.setf 4 (.var 0) (Str.ofString "functions") (.bt .listB (.cons (.var 4) .nil))) (.cons (.setf 4 (.var 0) (Str.ofString "arrays") (.bt .listB (.cons (.var 5) .nil))) (.cons (.setf 4 (.var 0) (Str.ofString "limits") (.dcomp 0 false 3 [0, 1, 2] [] (.var 2) .nil (.var 0) (.tupE (.cons (.var 1) (.cons (.var 2) .nil))))) (.cons (.setf 4 (.var 0) (Str.ofString "deeds") (.dcomp 0 false 3 [0, 1, 2] [] (.var 4) .nil (.var 0) (.tupE (.cons (.var 1) (.cons (.var 2) .nil))))) (.cons (.setf 4 (.var 0) (Str.ofString "unknowns") (.dcomp 0 true 1 [0] [] (.op .add (.var 1) (.call 17 (.cons (.var 2) .nil) [])) .nil (.var 0) (.cst (.str (Str.ofString "num"))))) (.cons (.ex (.mt .upd (.fld 4 (.var 0) (Str.ofString "unknowns")) (.cons (.dcomp 0 true 1 [0] [] (.var 3) .nil (.var 0) (.cst (.str (Str.ofString "thing")))) .nil))) (.cons (.ex (.mt .upd (.fld 4 (.var 0) (Str.ofString "unknowns")) (.cons (.dcomp 0 true 1 [0] [] (.var 5) .nil (.var 0) (.cst (.str (Str.ofString "array")))) .nil))) .nil))))))))))))))
noncomputable def ack : Ss := (.cons (.ex (.call 0 (.cons (.cst (.int 0)) .nil) [])) .nil)
noncomputable def acm : Ss := (.cons (.ex (.call 0 (.cons (.cst (.int 1)) .nil) [])) .nil)
noncomputable def acn : Ss := (.cons (.ex (.call 0 (.cons (.cst (.int 2)) .nil) [])) .nil)
noncomputable def aco : Ss := (.cons (.ex (.call 0 (.cons (.cst (.int 3)) .nil) [])) .nil)
noncomputable def acp : Ss := (.cons (.ex (.call 0 (.cons (.cst (.int 4)) .nil) [])) .nil)
noncomputable def Ji : Ss := (.cons (.ret (.ifE (.isi (.var 1) (.b "str")) (.mt .get (.fld 4 (.var 0) (Str.ofString "unknowns")) (.cons (.var 1) .nil)) (.cst .non))) .nil)
noncomputable def acq : Ss := (.cons (.ex (.call 0 (.cons (.cst (.int 5)) .nil) [])) .nil)
noncomputable def jj : Ss := (.cons (.ret (.ifE (.isi (.var 1) (.b "str")) (.mt .get (.fld 4 (.var 0) (Str.ofString "deeds")) (.cons (.var 1) .nil)) (.cst .non))) .nil)
noncomputable def Qy : Ss := (.cons (.ifS (.orE (.notE (.isi (.var 0) (.b "tuple"))) (.orE (.notE (.var 0)) (.notE (.isi (.ix (.var 0) (.cst (.int 0))) (.b "str"))))) (.cons (.ret (.cst .non)) .nil) .nil) (.cons (.ret (.ix (.var 0) (.cst (.int 0)))) .nil))
noncomputable def Jj : Ss := (.cons (.ret (.call 30 (.cons (.var 0) (.cons (.var 1) (.cons (.cst (.int 12)) .nil))) [])) .nil)
noncomputable def jk : Ss := (.cons (.set 3 (.call 28 (.cons (.var 1) .nil) [])) (.cons (.ifS (.orE (.cm .lt (.var 2) (.cst (.int 1))) (.orE (.tabIn true [(Str.ofString "number"), (Str.ofString "unknown"), (Str.ofString "weigh"), (Str.ofString "plus"), (Str.ofString "call"), (Str.ofString "read"), (Str.ofString "put")] (.var 3)) (.cm .ne (.bt .lenB (.cons (.var 1) .nil)) (.tabV [((Str.ofString "number"), (.int 2)), ((Str.ofString "unknown"), (.int 2)), ((Str.ofString "weigh"), (.int 3)), ((Str.ofString "plus"), (.int 2)), ((Str.ofString "call"), (.int 3)), ((Str.ofString "read"), (.int 3)), ((Str.ofString "put"), (.int 4))] (.var 3))))) (.cons (.unp [] (.cst .non)) .nil) .nil) (.cons (.set 4 (.tabF [((Str.ofString "number"), 32), ((Str.ofString "unknown"), 33), ((Str.ofString "weigh"), 34), ((Str.ofString "plus"), 35), ((Str.ofString "call"), 36), ((Str.ofString "read"), 37), ((Str.ofString "put"), 38)] (.var 3))) (.cons (.ret (.callV [32, 33, 34, 35, 36, 37, 38] (.var 4) (.cons (.var 0) (.cons (.var 1) (.cons (.op .sub (.var 2) (.cst (.int 1))) .nil))))) .nil))))
noncomputable def Jk : Ss := (.cons (.ifS (.orE (.notE (.isi (.var 1) (.b "tuple"))) (.cm .ne (.bt .lenB (.cons (.var 1) .nil)) (.bt .lenB (.cons (.var 2) .nil)))) (.cons (.unp [] (.cst .non)) .nil) .nil) (.cons (.forZT [4] true [5] true (.var 1) (.var 2) (.cons (.ifS (.cm .ne (.call 30 (.cons (.var 0) (.cons (.var 4) (.cons (.var 3) .nil))) []) (.var 5)) (.cons (.unp [] (.cst .non)) .nil) .nil) .nil)) .nil))
noncomputable def jl : Ss := (.cons (.ifS (.notE (.call 6 (.cons (.ix (.var 1) (.cst (.int 1))) .nil) [])) (.cons (.unp [] (.cst .non)) .nil) .nil) (.cons (.ret (.cst (.str (Str.ofString "num")))) .nil))
noncomputable def Jl : Ss := (.cons (.set 3 (.Ds 4 25 (Str.ofString "kind") (.var 0) (.cons (.ix (.var 1) (.cst (.int 1))) .nil))) (.cons (.ifS (.cm .isN (.var 3) (.cst .non)) (.cons (.unp [] (.cst .non)) .nil) .nil) (.cons (.ret (.var 3)) .nil)))
noncomputable def jm : Ss := (.cons (.ifS (.notE (.call 6 (.cons (.ix (.var 1) (.cst (.int 1))) .nil) [])) (.cons (.unp [] (.cst .non)) .nil) .nil) (.cons (.ex (.call 31 (.cons (.var 0) (.cons (.sl 1 (.var 1) (.cons (.cst (.int 2)) .nil)) (.cons (.tupE (.cons (.cst (.str (Str.ofString "num"))) .nil)) (.cons (.var 2) .nil)))) [])) (.cons (.ret (.cst (.str (Str.ofString "num")))) .nil)))
noncomputable def Jm : Ss := (.cons (.ifS (.notE (.isi (.ix (.var 1) (.cst (.int 1))) (.b "tuple"))) (.cons (.unp [] (.cst .non)) .nil) .nil) (.cons (.ex (.call 31 (.cons (.var 0) (.cons (.ix (.var 1) (.cst (.int 1))) (.cons (.op .mul (.tupE (.cons (.cst (.str (Str.ofString "num"))) .nil)) (.bt .lenB (.cons (.ix (.var 1) (.cst (.int 1))) .nil))) (.cons (.var 2) .nil)))) [])) (.cons (.ret (.cst (.str (Str.ofString "num")))) .nil)))
noncomputable def jn : Ss := (.cons (.set 3 (.Ds 4 27 (Str.ofString "function") (.var 0) (.cons (.ix (.var 1) (.cst (.int 1))) .nil))) (.cons (.ifS (.cm .isN (.var 3) (.cst .non)) (.cons (.unp [] (.cst .non)) .nil) .nil) (.cons (.unp [4, 5] (.var 3)) (.cons (.ex (.call 31 (.cons (.var 0) (.cons (.ix (.var 1) (.cst (.int 2))) (.cons (.var 4) (.cons (.var 2) .nil)))) [])) (.cons (.ret (.var 5)) .nil)))))
noncomputable def Jn : Ss := (.cons (.ex (.call 31 (.cons (.var 0) (.cons (.sl 1 (.var 1) (.cons (.cst (.int 1)) .nil)) (.cons (.tupE (.cons (.cst (.str (Str.ofString "array"))) (.cons (.cst (.str (Str.ofString "num"))) .nil))) (.cons (.var 2) .nil)))) [])) (.cons (.ret (.cst (.str (Str.ofString "num")))) .nil))
noncomputable def jo : Ss := (.cons (.ex (.call 31 (.cons (.var 0) (.cons (.sl 1 (.var 1) (.cons (.cst (.int 1)) .nil)) (.cons (.tupE (.cons (.cst (.str (Str.ofString "array"))) (.cons (.cst (.str (Str.ofString "num"))) (.cons (.cst (.str (Str.ofString "num"))) .nil)))) (.cons (.var 2) .nil)))) [])) (.cons (.ret (.cst (.str (Str.ofString "array")))) .nil))
noncomputable def Jo : Ss := (.cons (.tryS (.cons (.ex (.call 40 (.cons (.var 0) (.cons (.var 1) (.cons (.cst (.int 12)) .nil))) [])) .nil) 0 0 (.cons (.unp [] (.cst .non)) .nil)) .nil)
noncomputable def Jp : Ss := (.cons (.set 3 (.call 28 (.cons (.var 1) .nil) [])) (.cons (.ifS (.orE (.cm .lt (.var 2) (.cst (.int 1))) (.orE (.tabIn true [(Str.ofString "atmost"), (Str.ofString "below"), (Str.ofString "same"), (Str.ofString "not"), (Str.ofString "and"), (Str.ofString "or")] (.var 3)) (.cm .ne (.bt .lenB (.cons (.var 1) .nil)) (.tabV [((Str.ofString "atmost"), (.int 3)), ((Str.ofString "below"), (.int 3)), ((Str.ofString "same"), (.int 3)), ((Str.ofString "not"), (.int 2)), ((Str.ofString "and"), (.int 2)), ((Str.ofString "or"), (.int 2))] (.var 3))))) (.cons (.unp [] (.cst .non)) .nil) .nil) (.cons (.ifS (.cm .eq (.var 3) (.cst (.str (Str.ofString "not")))) (.cons (.unp [] (.cst .non)) .nil) (.cons (.ifS (.cm .inL (.var 3) (.tupE (.cons (.cst (.str (Str.ofString "and"))) (.cons (.cst (.str (Str.ofString "or"))) .nil)))) (.cons (.unp [] (.cst .non)) .nil) (.cons (.ex (.call 42 (.cons (.var 0) (.cons (.var 1) (.cons (.op .sub (.var 2) (.cst (.int 1))) .nil))) [])) .nil)) .nil)) .nil)))
noncomputable def acr : Ss := (.cons (.ifS (.notE (.isi (.var 1) (.b "tuple"))) (.cons (.unp [] (.cst .non)) .nil) .nil) (.cons (.forS [3] true true (.var 1) (.cons (.ex (.call 40 (.cons (.var 0) (.cons (.var 3) (.cons (.var 2) .nil))) [])) .nil)) .nil))
noncomputable def jq : Ss := (.cons (.set 3 (.call 30 (.cons (.var 0) (.cons (.ix (.var 1) (.cst (.int 1))) (.cons (.var 2) .nil))) [])) (.cons (.ifS (.cm .ne (.call 30 (.cons (.var 0) (.cons (.ix (.var 1) (.cst (.int 2))) (.cons (.var 2) .nil))) []) (.var 3)) (.cons (.unp [] (.cst .non)) .nil) .nil) (.cons (.ifS (.andE (.cm .ne (.var 3) (.cst (.str (Str.ofString "num")))) (.cm .ne (.tupE (.cons (.var 3) (.cons (.ix (.var 1) (.cst (.int 0))) .nil))) (.tupE (.cons (.cst (.str (Str.ofString "thing"))) (.cons (.cst (.str (Str.ofString "same"))) .nil))))) (.cons (.unp [] (.cst .non)) .nil) .nil) .nil)))
noncomputable def acs : Ss := (.cons (.ifS (.cm .lt (.var 1) (.bt .lenB (.cons (.var 0) .nil))) (.cons (.ret (.ix (.var 0) (.var 1))) .nil) .nil) (.cons (.ret (.cst (.int 0))) .nil))
noncomputable def Hc : Ss := (.cons (.set 2 (.lstE .nil)) (.cons (.set 3 (.op .fdiv (.var 0) (.cst (.int 1000)))) (.cons (.whileS (.andE (.cm .lt (.bt .lenB (.cons (.var 2) .nil)) (.var 1)) (.cm .gt (.var 3) (.cst (.int 0)))) (.cons (.ex (.mt .append (.var 2) (.cons (.op .mod (.var 3) (.op .pow (.cst (.int 10)) (.cst (.int 9)))) .nil))) (.cons (.set 3 (.op .fdiv (.var 3) (.op .pow (.cst (.int 10)) (.cst (.int 9))))) .nil))) (.cons (.set 4 (.op .mod (.op .mul (.op .add (.var 0) (.cst (.int 1))) (.cst (.int 48271))) (.cst (.int 2147483647)))) (.cons (.whileS (.cm .lt (.bt .lenB (.cons (.var 2) .nil)) (.var 1)) (.cons (.set 5 (.op .add (.op .add (.var 4) (.op .mul (.cst (.int 7919)) (.bt .lenB (.cons (.var 2) .nil)))) (.cst (.int 1)))) (.cons (.set 4 (.op .mod (.op .mul (.var 5) (.op .add (.op .fdiv (.var 4) (.cst (.int 1009))) (.cst (.int 69621)))) (.cst (.int 2147483647)))) (.cons (.ex (.mt .append (.var 2) (.cons (.op .mod (.op .mul (.var 4) (.op .add (.op .fdiv (.var 4) (.cst (.int 2003))) (.cst (.int 40009)))) (.cst (.int 2147483629))) .nil))) .nil)))) (.cons (.ret (.mt .rev (.var 2) .nil)) .nil))))))
noncomputable def Jq : Ss := (.cons (.ifS (.cm .eq (.var 0) (.lstE .nil)) (.cons (.ret (.cst (.int 0))) .nil) .nil) (.cons (.ret (.mt .pop (.var 0) .nil)) .nil))
noncomputable def jr : Ss := (.cons (.set 1 (.op .sub (.op .mod (.var 0) (.cst (.int 13))) (.cst (.int 6)))) (.cons (.set 2 (.ix (.lstE (.cons (.cst (.int 1)) (.cons (.cst (.int 1)) (.cons (.cst (.int 2)) (.cons (.cst (.int 3)) .nil))))) (.op .mod (.op .fdiv (.var 0) (.cst (.int 13))) (.cst (.int 4))))) (.cons (.ifS (.andE (.cm .gt (.var 2) (.cst (.int 1))) (.cm .eq (.op .mod (.var 1) (.var 2)) (.cst (.int 0)))) (.cons (.ret (.tupE (.cons (.op .fdiv (.var 1) (.var 2)) (.cons (.cst (.int 1)) .nil)))) .nil) .nil) (.cons (.ret (.tupE (.cons (.var 1) (.cons (.var 2) .nil)))) .nil))))
noncomputable def Jr : Ss := (.cons (.set 2 (.call 45 (.cons (.var 0) .nil) [])) (.cons (.set 3 (.op .mod (.var 2) (.cst (.int 9)))) (.cons (.ifS (.orE (.cm .lt (.var 1) (.cst (.int 1))) (.cm .lt (.var 3) (.cst (.int 3)))) (.cons (.ret (.tupE (.cons (.cst (.str (Str.ofString "unknown"))) (.cons (.ix (.lstE (.cons (.cst (.str (Str.ofString "x"))) (.cons (.cst (.str (Str.ofString "y"))) (.cons (.cst (.str (Str.ofString "z"))) (.cons (.cst (.str (Str.ofString "n"))) .nil))))) (.op .mod (.op .fdiv (.var 2) (.cst (.int 9))) (.cst (.int 4)))) .nil)))) .nil) .nil) (.cons (.ifS (.cm .eq (.var 3) (.cst (.int 3))) (.cons (.ret (.tupE (.cons (.cst (.str (Str.ofString "number"))) (.cons (.call 46 (.cons (.op .fdiv (.var 2) (.cst (.int 9))) .nil) []) .nil)))) .nil) .nil) (.cons (.ifS (.cm .eq (.var 3) (.cst (.int 4))) (.cons (.ret (.tupE (.cons (.cst (.str (Str.ofString "weigh"))) (.cons (.call 46 (.cons (.op .fdiv (.var 2) (.cst (.int 9))) .nil) []) (.cons (.call 47 (.cons (.var 0) (.cons (.op .sub (.var 1) (.cst (.int 1))) .nil)) []) .nil))))) .nil) .nil) (.cons (.ifS (.cm .eq (.var 3) (.cst (.int 5))) (.cons (.ret (.tupE (.cons (.cst (.str (Str.ofString "call"))) (.cons (.cst (.str (Str.ofString "f"))) (.cons (.tupE (.cons (.call 47 (.cons (.var 0) (.cons (.op .sub (.var 1) (.cst (.int 1))) .nil)) []) .nil)) .nil))))) .nil) .nil) (.cons (.ifS (.cm .lt (.var 3) (.cst (.int 8))) (.cons (.set 4 (.call 48 (.cons (.var 0) (.cons (.op .sub (.var 1) (.cst (.int 1))) .nil)) [])) (.cons (.ret (.tupE (.cons (.cst (.str (Str.ofString "read"))) (.cons (.var 4) (.cons (.call 47 (.cons (.var 0) (.cons (.op .sub (.var 1) (.cst (.int 1))) .nil)) []) .nil))))) .nil)) .nil) (.cons (.set 5 (.call 47 (.cons (.var 0) (.cons (.op .sub (.var 1) (.cst (.int 1))) .nil)) [])) (.cons (.ret (.tupE (.cons (.cst (.str (Str.ofString "plus"))) (.cons (.tupE (.cons (.var 5) (.cons (.call 47 (.cons (.var 0) (.cons (.op .sub (.var 1) (.cst (.int 1))) .nil)) []) .nil))) .nil)))) .nil)))))))))
noncomputable def js : Ss := (.cons (.set 2 (.call 45 (.cons (.var 0) .nil) [])) (.cons (.ifS (.orE (.cm .lt (.var 1) (.cst (.int 1))) (.cm .eq (.op .mod (.var 2) (.cst (.int 3))) (.cst (.int 0)))) (.cons (.ret (.tupE (.cons (.cst (.str (Str.ofString "unknown"))) (.cons (.ix (.lstE (.cons (.cst (.str (Str.ofString "a"))) (.cons (.cst (.str (Str.ofString "b"))) .nil))) (.op .mod (.op .fdiv (.var 2) (.cst (.int 3))) (.cst (.int 2)))) .nil)))) .nil) .nil) (.cons (.set 3 (.call 48 (.cons (.var 0) (.cons (.op .sub (.var 1) (.cst (.int 1))) .nil)) [])) (.cons (.set 4 (.call 47 (.cons (.var 0) (.cons (.op .sub (.var 1) (.cst (.int 1))) .nil)) [])) (.cons (.ret (.tupE (.cons (.cst (.str (Str.ofString "put"))) (.cons (.var 3) (.cons (.var 4) (.cons (.call 47 (.cons (.var 0) (.cons (.op .sub (.var 1) (.cst (.int 2))) .nil)) []) .nil)))))) .nil)))))
noncomputable def Js : Ss := (.cons (.set 1 (.call 44 (.cons (.var 0) (.cons (.cst (.int 150)) .nil)) [])) (.cons (.set 2 (.tupE (.cons (.cst (.str (Str.ofString "unknown"))) (.cons (.ix (.lstE (.cons (.cst (.str (Str.ofString "a"))) (.cons (.cst (.str (Str.ofString "b"))) .nil))) (.op .mod (.var 0) (.cst (.int 2)))) .nil)))) (.cons (.forR [3] (.cons (.op .mod (.op .fdiv (.var 0) (.cst (.int 2))) (.cst (.int 5))) .nil) (.cons (.set 4 (.call 47 (.cons (.var 1) (.cons (.op .mod (.op .fdiv (.var 0) (.cst (.int 10))) (.cst (.int 4))) .nil)) [])) (.cons (.set 2 (.tupE (.cons (.cst (.str (Str.ofString "put"))) (.cons (.var 2) (.cons (.var 4) (.cons (.call 47 (.cons (.var 1) (.cons (.op .mod (.op .fdiv (.var 0) (.cst (.int 40))) (.cst (.int 4))) .nil)) []) .nil)))))) .nil))) (.cons (.ret (.tupE (.cons (.cst (.str (Str.ofString "read"))) (.cons (.var 2) (.cons (.call 47 (.cons (.var 1) (.cons (.op .mod (.op .fdiv (.var 0) (.cst (.int 160))) (.cst (.int 4))) .nil)) []) .nil))))) .nil))))
noncomputable def jt : Ss := (.cons (.forR [2] (.cons (.cst (.int 2)) .nil) (.cons (.ifS (.orE (.cm .ne (.call 2 (.cons (.var 1) .nil) []) (.ix (.ix (.var 1) (.cst (.int 1))) (.cst (.int 3)))) (.cm .ne (.call 29 (.cons (.var 0) (.cons (.call 2 (.cons (.var 1) .nil) []) .nil)) []) (.cst (.str (Str.ofString "num"))))) (.cons (.ret (.cst (.bl false))) .nil) .nil) (.cons (.ifS (.orE (.cm .ne (.call 3 (.cons (.var 1) .nil) []) (.tupE (.cons (.cst (.str (Str.ofString "read"))) (.cons (.ix (.ix (.var 1) (.cst (.int 1))) (.cst (.int 1))) (.cons (.ix (.var 1) (.cst (.int 2))) .nil))))) (.cm .ne (.call 29 (.cons (.var 0) (.cons (.call 3 (.cons (.var 1) .nil) []) .nil)) []) (.cst (.str (Str.ofString "num"))))) (.cons (.ret (.cst (.bl false))) .nil) .nil) (.cons (.ifS (.orE (.cm .ne (.call 4 (.cons (.var 1) .nil) []) (.tupE (.cons (.cst (.str (Str.ofString "same"))) (.cons (.ix (.var 1) (.cst (.int 2))) (.cons (.ix (.ix (.var 1) (.cst (.int 1))) (.cst (.int 2))) .nil))))) (.cm .notN (.call 39 (.cons (.var 0) (.cons (.call 4 (.cons (.var 1) .nil) []) .nil)) []) (.cst .non))) (.cons (.ret (.cst (.bl false))) .nil) .nil) .nil)))) (.cons (.ret (.cst (.bl true))) .nil))
noncomputable def Hd : Ss := (.cons (.set 1 (.mk 4 19 (.cons (.lstE (.cons (.cst (.str (Str.ofString "x"))) (.cons (.cst (.str (Str.ofString "y"))) (.cons (.cst (.str (Str.ofString "z"))) .nil)))) (.cons (.lstE (.cons (.tupE (.cons (.cst (.str (Str.ofString "n"))) (.cons (.cst (.int 0)) (.cons (.cst (.int 3)) .nil)))) .nil)) (.cons (.lstE .nil) (.cons (.lstE (.cons (.tupE (.cons (.cst (.str (Str.ofString "f"))) (.cons (.tupE (.cons (.cst (.str (Str.ofString "num"))) .nil)) (.cons (.cst (.str (Str.ofString "num"))) .nil)))) .nil)) (.cons (.lstE (.cons (.cst (.str (Str.ofString "a"))) (.cons (.cst (.str (Str.ofString "b"))) .nil))) .nil))))))) (.cons (.forS [2] true false (.op .add (.sl 2 (.var 0) (.cons (.cst (.int 8)) .nil)) (.lstE (.cons (.cst (.int 0)) .nil))) (.cons (.set 3 (.call 49 (.cons (.var 2) .nil) [])) (.cons (.set 4 (.op .mod (.op .fdiv (.var 2) (.cst (.int 2))) (.cst (.int 5)))) (.cons (.forR [5] (.cons (.var 4) .nil) (.cons (.ifS (.orE (.cm .notN (.call 1 (.cons (.var 3) .nil) []) (.cst (.bl true))) (.notE (.call 50 (.cons (.var 1) (.cons (.var 3) .nil)) []))) (.cons (.ret (.cst (.bl false))) .nil) .nil) (.cons (.set 3 (.call 3 (.cons (.var 3) .nil) [])) .nil))) (.cons (.ifS (.orE (.cm .notN (.call 1 (.cons (.var 3) .nil) []) (.cst (.bl false))) (.cm .ne (.ix (.ix (.var 3) (.cst (.int 1))) (.cst (.int 0))) (.cst (.str (Str.ofString "unknown"))))) (.cons (.ret (.cst (.bl false))) .nil) .nil) (.cons (.forS [6] true false (.lstE (.cons (.ix (.var 3) (.cst (.int 2))) (.cons (.tupE (.cons (.cst (.str (Str.ofString "unknown"))) (.cons (.cst (.str (Str.ofString "x"))) .nil))) (.cons (.tupE (.cons (.cst (.str (Str.ofString "plus"))) (.cons (.tupE .nil) .nil))) (.cons (.tupE (.cons (.cst (.str (Str.ofString "number"))) (.cons (.tupE (.cons (.cst (.int 1)) (.cons (.cst (.int 2)) .nil))) .nil))) (.cons (.tupE (.cons (.cst (.str (Str.ofString "call"))) (.cons (.cst (.str (Str.ofString "f"))) (.cons (.tupE (.cons (.var 3) .nil)) .nil)))) .nil)))))) (.cons (.ifS (.cm .ne (.call 1 (.cons (.var 6) .nil) []) (.andE (.cm .eq (.ix (.var 6) (.cst (.int 0))) (.cst (.str (Str.ofString "read")))) (.cm .eq (.ix (.ix (.var 6) (.cst (.int 1))) (.cst (.int 0))) (.cst (.str (Str.ofString "put")))))) (.cons (.ret (.cst (.bl false))) .nil) .nil) .nil)) .nil)))))) (.cons (.ret (.cst (.bl true))) .nil)))
noncomputable def fns : List Fn := [⟨1, 1, acj⟩, ⟨1, 1, qo⟩, ⟨1, 1, Qo⟩, ⟨1, 1, qp⟩, ⟨1, 1, Qp⟩, ⟨1, 1, qq⟩, ⟨1, 3, Qq⟩, ⟨2, 2, qr⟩, ⟨1, 1, Qr⟩, ⟨1, 1, Qs⟩, ⟨1, 1, qt⟩, ⟨1, 1, Qt⟩, ⟨1, 1, qu⟩, ⟨1, 1, Qu⟩, ⟨1, 5, qv⟩, ⟨1, 1, qw⟩, ⟨1, 1, Qw⟩, ⟨1, 1, qx⟩, ⟨1, 1, Qx⟩, ⟨6, 7, qy⟩, ⟨1, 1, ack⟩, ⟨1, 1, acm⟩, ⟨1, 1, acn⟩, ⟨1, 1, aco⟩, ⟨1, 1, acp⟩, ⟨2, 2, Ji⟩, ⟨2, 2, acq⟩, ⟨2, 2, jj⟩, ⟨1, 1, Qy⟩, ⟨2, 2, Jj⟩, ⟨3, 5, jk⟩, ⟨4, 6, Jk⟩, ⟨3, 3, jl⟩, ⟨3, 4, Jl⟩, ⟨3, 3, jm⟩, ⟨3, 3, Jm⟩, ⟨3, 6, jn⟩, ⟨3, 3, Jn⟩, ⟨3, 3, jo⟩, ⟨2, 2, Jo⟩, ⟨3, 4, Jp⟩, ⟨3, 4, acr⟩, ⟨3, 4, jq⟩, ⟨2, 2, acs⟩, ⟨2, 6, Hc⟩, ⟨1, 1, Jq⟩, ⟨1, 3, jr⟩, ⟨2, 6, Jr⟩, ⟨2, 5, js⟩, ⟨1, 5, Js⟩, ⟨2, 3, jt⟩, ⟨1, 7, Hd⟩]
noncomputable def tab (n : Nat) (t : Ty) : Option Bool := match n with
 | _ => none
theorem Ci {n : Nat} {x : String} (h : x ≠ "ValueError") : tab n (.b x) = none := by
 unfold tab
 split
 · rfl
section
variable (K : PySem.W.Frag) (mg : Str → Option Value) (fd : Nat → FuncData) (cls : CW)
structure Txt : Prop where
 f_is_read_of_put : FunD K "is_read_of_put" "is_read_of_put" fx (cls.fn 1) (fd 1)
 m_is_read_of_put : mg "is_read_of_put" = some (.ref (cls.fn 1))
 b_is_read_of_put : Binds K (fd 1) ["term"] []
 f_hit : FunD K "hit" "hit" Fx (cls.fn 2) (fd 2)
 m_hit : mg "hit" = some (.ref (cls.fn 2))
 b_hit : Binds K (fd 2) ["read"] []
 f_miss : FunD K "miss" "miss" fy (cls.fn 3) (fd 3)
 m_miss : mg "miss" = some (.ref (cls.fn 3))
 b_miss : Binds K (fd 3) ["read"] []
 f_need : FunD K "need" "need" Fy (cls.fn 4) (fd 4)
 m_need : mg "need" = some (.ref (cls.fn 4))
 b_need : Binds K (fd 4) ["read"] []
 f_is_whole : FunD K "is_whole" "is_whole" Fz (cls.fn 5) (fd 5)
 m_is_whole : mg "is_whole" = some (.ref (cls.fn 5))
 b_is_whole : Binds K (fd 5) ["thing"] []
 f_is_fraction : FunD K "is_fraction" "is_fraction" Eg (cls.fn 6) (fd 6)
 m_is_fraction : mg "is_fraction" = some (.ref (cls.fn 6))
 b_is_fraction : Binds K (fd 6) ["thing"] []
 f_common_divisor : FunD K "common_divisor" "common_divisor" fg (cls.fn 7) (fd 7)
 m_common_divisor : mg "common_divisor" = some (.ref (cls.fn 7))
 b_common_divisor : Binds K (fd 7) ["one", "other"] []
 f_is_name : FunD K "is_name" "is_name" Ga (cls.fn 8) (fd 8)
 m_is_name : mg "is_name" = some (.ref (cls.fn 8))
 b_is_name : Binds K (fd 8) ["thing"] []
 f_is_row : FunD K "is_row" "is_row" gb (cls.fn 9) (fd 9)
 m_is_row : mg "is_row" = some (.ref (cls.fn 9))
 b_is_row : Binds K (fd 9) ["thing"] []
 f_is_kind : FunD K "is_kind" "is_kind" Gb (cls.fn 10) (fd 10)
 m_is_kind : mg "is_kind" = some (.ref (cls.fn 10))
 b_is_kind : Binds K (fd 10) ["thing"] []
 f_is_list_of_names : FunD K "is_list_of_names" "is_list_of_names" gc (cls.fn 11) (fd 11)
 m_is_list_of_names : mg "is_list_of_names" = some (.ref (cls.fn 11))
 b_is_list_of_names : Binds K (fd 11) ["thing"] []
 f_is_bounded : FunD K "is_bounded" "is_bounded" gd (cls.fn 12) (fd 12)
 m_is_bounded : mg "is_bounded" = some (.ref (cls.fn 12))
 b_is_bounded : Binds K (fd 12) ["thing"] []
 f_is_function : FunD K "is_function" "is_function" Gd (cls.fn 13) (fd 13)
 m_is_function : mg "is_function" = some (.ref (cls.fn 13))
 b_is_function : Binds K (fd 13) ["thing"] []
 f_check_wholes : FunD K "check_wholes" "check_wholes" dk (cls.fn 14) (fd 14)
 m_check_wholes : mg "check_wholes" = some (.ref (cls.fn 14))
 b_check_wholes : Binds K (fd 14) ["wholes"] []
 f_check_functions : FunD K "check_functions" "check_functions" Ge (cls.fn 15) (fd 15)
 m_check_functions : mg "check_functions" = some (.ref (cls.fn 15))
 b_check_functions : Binds K (fd 15) ["functions"] []
 f_check_names : FunD K "check_names" "check_names" gf (cls.fn 16) (fd 16)
 m_check_names : mg "check_names" = some (.ref (cls.fn 16))
 b_check_names : Binds K (fd 16) ["names"] []
 f_first_parts : FunD K "first_parts" "first_parts" Gf (cls.fn 17) (fd 17)
 m_first_parts : mg "first_parts" = some (.ref (cls.fn 17))
 b_first_parts : Binds K (fd 17) ["rows"] []
 f_check_unlike : FunD K "check_unlike" "check_unlike" Gg (cls.fn 18) (fd 18)
 m_check_unlike : mg "check_unlike" = some (.ref (cls.fn 18))
 b_check_unlike : Binds K (fd 18) ["names"] []
 f_Names_9__init__ : FunD K "__init__" "Names.__init__" Cz (cls.fn 19) (fd 19)
 b_Names_9__init__ : Binds K (fd 19) ["self", "numbers", "wholes", "things", "functions", "arrays"] []
 f_Names_9kind : FunD K "kind" "Names.kind" Fg (cls.fn 25) (fd 25)
 b_Names_9kind : Binds K (fd 25) ["self", "name"] []
 f_Names_9function : FunD K "function" "Names.function" fh (cls.fn 27) (fd 27)
 b_Names_9function : Binds K (fd 27) ["self", "name"] []
 f_word_of : FunD K "word_of" "word_of" gh (cls.fn 28) (fd 28)
 m_word_of : mg "word_of" = some (.ref (cls.fn 28))
 b_word_of : Binds K (fd 28) ["thing"] []
 f_kind_of : FunD K "kind_of" "kind_of" Fh (cls.fn 29) (fd 29)
 m_kind_of : mg "kind_of" = some (.ref (cls.fn 29))
 b_kind_of : Binds K (fd 29) ["names", "term"] []
 f_kind_within : FunD K "kind_within" "kind_within" Dk (cls.fn 30) (fd 30)
 m_kind_within : mg "kind_within" = some (.ref (cls.fn 30))
 b_kind_within : Binds K (fd 30) ["names", "term", "room"] []
 f_check_kinds : FunD K "check_kinds" "check_kinds" Dd (cls.fn 31) (fd 31)
 m_check_kinds : mg "check_kinds" = some (.ref (cls.fn 31))
 b_check_kinds : Binds K (fd 31) ["names", "terms", "kinds", "room"] []
 f_kind_of_number : FunD K "kind_of_number" "kind_of_number" Gh (cls.fn 32) (fd 32)
 m_kind_of_number : mg "kind_of_number" = some (.ref (cls.fn 32))
 b_kind_of_number : Binds K (fd 32) ["names", "term", "room"] []
 f_kind_of_unknown : FunD K "kind_of_unknown" "kind_of_unknown" Eh (cls.fn 33) (fd 33)
 m_kind_of_unknown : mg "kind_of_unknown" = some (.ref (cls.fn 33))
 b_kind_of_unknown : Binds K (fd 33) ["names", "term", "room"] []
 f_kind_of_weigh : FunD K "kind_of_weigh" "kind_of_weigh" Ei (cls.fn 34) (fd 34)
 m_kind_of_weigh : mg "kind_of_weigh" = some (.ref (cls.fn 34))
 b_kind_of_weigh : Binds K (fd 34) ["names", "term", "room"] []
 f_kind_of_plus : FunD K "kind_of_plus" "kind_of_plus" ej (cls.fn 35) (fd 35)
 m_kind_of_plus : mg "kind_of_plus" = some (.ref (cls.fn 35))
 b_kind_of_plus : Binds K (fd 35) ["names", "term", "room"] []
 f_kind_of_call : FunD K "kind_of_call" "kind_of_call" de (cls.fn 36) (fd 36)
 m_kind_of_call : mg "kind_of_call" = some (.ref (cls.fn 36))
 b_kind_of_call : Binds K (fd 36) ["names", "term", "room"] []
 f_kind_of_read : FunD K "kind_of_read" "kind_of_read" Ej (cls.fn 37) (fd 37)
 m_kind_of_read : mg "kind_of_read" = some (.ref (cls.fn 37))
 b_kind_of_read : Binds K (fd 37) ["names", "term", "room"] []
 f_kind_of_put : FunD K "kind_of_put" "kind_of_put" Ek (cls.fn 38) (fd 38)
 m_kind_of_put : mg "kind_of_put" = some (.ref (cls.fn 38))
 b_kind_of_put : Binds K (fd 38) ["names", "term", "room"] []
 f_check_statement : FunD K "check_statement" "check_statement" Fi (cls.fn 39) (fd 39)
 m_check_statement : mg "check_statement" = some (.ref (cls.fn 39))
 b_check_statement : Binds K (fd 39) ["names", "statement"] []
 f_check_within : FunD K "check_within" "check_within" dt (cls.fn 40) (fd 40)
 m_check_within : mg "check_within" = some (.ref (cls.fn 40))
 b_check_within : Binds K (fd 40) ["names", "statement", "room"] []
 f_check_atom : FunD K "check_atom" "check_atom" Dt (cls.fn 42) (fd 42)
 m_check_atom : mg "check_atom" = some (.ref (cls.fn 42))
 b_check_atom : Binds K (fd 42) ["names", "atom", "room"] []
 f__law_stream : FunD K "_law_stream" "_law_stream" De (cls.fn 44) (fd 44)
 m__law_stream : mg "_law_stream" = some (.ref (cls.fn 44))
 b__law_stream : Binds K (fd 44) ["_law_cell", "_law_many"] []
 f__law_draw : FunD K "_law_draw" "_law_draw" gi (cls.fn 45) (fd 45)
 m__law_draw : mg "_law_draw" = some (.ref (cls.fn 45))
 b__law_draw : Binds K (fd 45) ["_law_xs"] []
 f__law_fraction : FunD K "_law_fraction" "_law_fraction" El (cls.fn 46) (fd 46)
 m__law_fraction : mg "_law_fraction" = some (.ref (cls.fn 46))
 b__law_fraction : Binds K (fd 46) ["_law_number"] []
 f__law_term : FunD K "_law_term" "_law_term" df (cls.fn 47) (fd 47)
 m__law_term : mg "_law_term" = some (.ref (cls.fn 47))
 b__law_term : Binds K (fd 47) ["_law_xs", "_law_deep"] []
 f__law_array : FunD K "_law_array" "_law_array" Dl (cls.fn 48) (fd 48)
 m__law_array : mg "_law_array" = some (.ref (cls.fn 48))
 b__law_array : Binds K (fd 48) ["_law_xs", "_law_deep"] []
 f__law_read : FunD K "_law_read" "_law_read" dm (cls.fn 49) (fd 49)
 m__law_read : mg "_law_read" = some (.ref (cls.fn 49))
 b__law_read : Binds K (fd 49) ["_law_cell"] []
 f__law_is : FunD K "_law_is" "_law_is" Em (cls.fn 50) (fd 50)
 m__law_is : mg "_law_is" = some (.ref (cls.fn 50))
 b__law_is : Binds K (fd 50) ["_law_names", "_law_term_here"] []
 f_law : FunD K "law" "law" Cs (cls.fn 51) (fd 51)
 m_law : mg "law" = some (.ref (cls.fn 51))
 b_law : Binds K (fd 51) ["_law_script"] []
 gc_DEEPEST : ∃ u, mg "DEEPEST" = some u ∧ RelV ((.int 12) : L2.V) u
 gc_LETTERS : ∃ u, mg "LETTERS" = some u ∧ RelV ((.str (Str.ofString "abcdefghijklmnopqrstuvwxyz")) : L2.V) u
 gc_LONGEST_NAME : ∃ u, mg "LONGEST_NAME" = some u ∧ RelV ((.int 8) : L2.V) u
 gc_MOST_KINDS : ∃ u, mg "MOST_KINDS" = some u ∧ RelV ((.int 3) : L2.V) u
 gc_MOST_VALUES : ∃ u, mg "MOST_VALUES" = some u ∧ RelV ((.int 3600) : L2.V) u
 gc_WIDEST_BOUNDS : ∃ u, mg "WIDEST_BOUNDS" = some u ∧ RelV ((.int 60) : L2.V) u
 tb_DEEDS : TabAt K mg "DEEDS" [((Str.ofString "number"), .ref (cls.fn 32)), ((Str.ofString "unknown"), .ref (cls.fn 33)), ((Str.ofString "weigh"), .ref (cls.fn 34)), ((Str.ofString "plus"), .ref (cls.fn 35)), ((Str.ofString "call"), .ref (cls.fn 36)), ((Str.ofString "read"), .ref (cls.fn 37)), ((Str.ofString "put"), .ref (cls.fn 38))]
 tb_LENGTHS_statements : TabAt K mg "LENGTHS_statements" [((Str.ofString "atmost"), (.int 3)), ((Str.ofString "below"), (.int 3)), ((Str.ofString "same"), (.int 3)), ((Str.ofString "not"), (.int 2)), ((Str.ofString "and"), (.int 2)), ((Str.ofString "or"), (.int 2))]
 tb_LENGTHS_terms : TabAt K mg "LENGTHS_terms" [((Str.ofString "number"), (.int 2)), ((Str.ofString "unknown"), (.int 2)), ((Str.ofString "weigh"), (.int 3)), ((Str.ofString "plus"), (.int 2)), ((Str.ofString "call"), (.int 3)), ((Str.ofString "read"), (.int 3)), ((Str.ofString "put"), (.int 4))]
 cl_Names : Cls K (cls 4)
 na_Names_arrays : Cc K (cls 4) "arrays"
 na_Names_deeds : Cc K (cls 4) "deeds"
 na_Names_functions : Cc K (cls 4) "functions"
 na_Names_limits : Cc K (cls 4) "limits"
 na_Names_numbers : Cc K (cls 4) "numbers"
 na_Names_things : Cc K (cls 4) "things"
 na_Names_unknowns : Cc K (cls 4) "unknowns"
 na_Names_wholes : Cc K (cls 4) "wholes"
 me_Names_function : Meth K (cls 4) "function" (cls.fn 27)
 me_Names_kind : Meth K (cls 4) "kind" (cls.fn 25)
 k_Names : Mk K (cls 4) (cls.fn 19)
 mc_Names : mg "Names" = some (.ref (cls 4))
 z_abs : mg "abs" = none
 z_all : mg "all" = none
 z_bool : mg "bool" = none
 z_int : mg "int" = none
 z_isinstance : mg "isinstance" = none
 z_len : mg "len" = none
 z_list : mg "list" = none
 z_range : mg "range" = none
 z_set : mg "set" = none
 z_str : mg "str" = none
 z_tuple : mg "tuple" = none
 z_zip : mg "zip" = none
end
section
variable {Pr : Program} {w : World} {K : PySem.W.Frag} {mg : Str → Option Value} {base : Heap} {fd : Nat → FuncData} {cls : CW} {FF : Nat}
abbrev Fk (Pr : Program) (w : World) (K : PySem.W.Frag) (mg : Str → Option Value) (base : Heap) (fd : Nat → FuncData) (cls : CW) (FF n i : Nat) (ps : List Str) (k : Nat) : Prop := FnOk Pr w K mg base (CXd Pr w) (2 * n) (cls.fn i) (fd i) ps (spD K cls k (Bw tab fns FF n i))
structure IH (Pr : Program) (w : World) (K : PySem.W.Frag) (mg : Str → Option Value) (base : Heap) (fd : Nat → FuncData) (cls : CW) (FF n : Nat) : Prop where
 i_is_read_of_put : Fk Pr w K mg base fd cls FF n 1 ["term"] 1
 i_hit : Fk Pr w K mg base fd cls FF n 2 ["read"] 1
 i_miss : Fk Pr w K mg base fd cls FF n 3 ["read"] 1
 i_need : Fk Pr w K mg base fd cls FF n 4 ["read"] 1
 i_is_whole : Fk Pr w K mg base fd cls FF n 5 ["thing"] 1
 i_is_fraction : Fk Pr w K mg base fd cls FF n 6 ["thing"] 1
 i_common_divisor : Fk Pr w K mg base fd cls FF n 7 ["one", "other"] 2
 i_is_name : Fk Pr w K mg base fd cls FF n 8 ["thing"] 1
 i_is_row : Fk Pr w K mg base fd cls FF n 9 ["thing"] 1
 i_is_kind : Fk Pr w K mg base fd cls FF n 10 ["thing"] 1
 i_is_list_of_names : Fk Pr w K mg base fd cls FF n 11 ["thing"] 1
 i_is_bounded : Fk Pr w K mg base fd cls FF n 12 ["thing"] 1
 i_is_function : Fk Pr w K mg base fd cls FF n 13 ["thing"] 1
 i_check_wholes : Fk Pr w K mg base fd cls FF n 14 ["wholes"] 1
 i_check_functions : Fk Pr w K mg base fd cls FF n 15 ["functions"] 1
 i_check_names : Fk Pr w K mg base fd cls FF n 16 ["names"] 1
 i_first_parts : Fk Pr w K mg base fd cls FF n 17 ["rows"] 1
 i_check_unlike : Fk Pr w K mg base fd cls FF n 18 ["names"] 1
 i_Names_9__init__ : Fk Pr w K mg base fd cls FF n 19 ["self", "numbers", "wholes", "things", "functions", "arrays"] 6
 i_Names_9kind : Fk Pr w K mg base fd cls FF n 25 ["self", "name"] 2
 i_Names_9function : Fk Pr w K mg base fd cls FF n 27 ["self", "name"] 2
 i_word_of : Fk Pr w K mg base fd cls FF n 28 ["thing"] 1
 i_kind_of : Fk Pr w K mg base fd cls FF n 29 ["names", "term"] 2
 i_kind_within : Fk Pr w K mg base fd cls FF n 30 ["names", "term", "room"] 3
 i_check_kinds : Fk Pr w K mg base fd cls FF n 31 ["names", "terms", "kinds", "room"] 4
 i_kind_of_number : Fk Pr w K mg base fd cls FF n 32 ["names", "term", "room"] 3
 i_kind_of_unknown : Fk Pr w K mg base fd cls FF n 33 ["names", "term", "room"] 3
 i_kind_of_weigh : Fk Pr w K mg base fd cls FF n 34 ["names", "term", "room"] 3
 i_kind_of_plus : Fk Pr w K mg base fd cls FF n 35 ["names", "term", "room"] 3
 i_kind_of_call : Fk Pr w K mg base fd cls FF n 36 ["names", "term", "room"] 3
 i_kind_of_read : Fk Pr w K mg base fd cls FF n 37 ["names", "term", "room"] 3
 i_kind_of_put : Fk Pr w K mg base fd cls FF n 38 ["names", "term", "room"] 3
 i_check_statement : Fk Pr w K mg base fd cls FF n 39 ["names", "statement"] 2
 i_check_within : Fk Pr w K mg base fd cls FF n 40 ["names", "statement", "room"] 3
 i_check_atom : Fk Pr w K mg base fd cls FF n 42 ["names", "atom", "room"] 3
 i__law_stream : Fk Pr w K mg base fd cls FF n 44 ["_law_cell", "_law_many"] 2
 i__law_draw : Fk Pr w K mg base fd cls FF n 45 ["_law_xs"] 1
 i__law_fraction : Fk Pr w K mg base fd cls FF n 46 ["_law_number"] 1
 i__law_term : Fk Pr w K mg base fd cls FF n 47 ["_law_xs", "_law_deep"] 2
 i__law_array : Fk Pr w K mg base fd cls FF n 48 ["_law_xs", "_law_deep"] 2
 i__law_read : Fk Pr w K mg base fd cls FF n 49 ["_law_cell"] 1
 i__law_is : Fk Pr w K mg base fd cls FF n 50 ["_law_names", "_law_term_here"] 2
 i_law : Fk Pr w K mg base fd cls FF n 51 ["_law_script"] 1
theorem acu {n : Nat} {g : G} {X : Cx} (T : Txt K mg fd cls) (ih : IH Pr w K mg base fd cls FF n) (h1 : X.prog = Pr := by rfl) (h2 : X.w = w := by rfl) (h3 : X.K = K := by rfl) (h4 : X.mg = mg := by rfl) (h5 : X.base = base := by rfl) (h6 : g.K = K := by rfl) (h7 : g.cls = cls := by rfl) (h8 : g.call = Bw tab fns FF n := by rfl) : ∀ i ∈ ([32, 33, 34, 35, 36, 37, 38] : List Nat), FnV g X (2 * n) 3 i := by
 obtain ⟨⟩ := h1
 subst h2 h3 h4 h5 h7
 intro i hi
 simp only [List.mem_cons, List.not_mem_nil, or_false] at hi
 rcases hi with rfl | rfl | rfl | rfl | rfl | rfl | rfl
 · exact ⟨⟨_, _, by rw [h6, h8]; exact ih.i_kind_of_number, T.b_kind_of_number⟩, T.f_kind_of_number.kp, by rw [h8]; exact Ag rfl⟩
 · exact ⟨⟨_, _, by rw [h6, h8]; exact ih.i_kind_of_unknown, T.b_kind_of_unknown⟩, T.f_kind_of_unknown.kp, by rw [h8]; exact Ag rfl⟩
 · exact ⟨⟨_, _, by rw [h6, h8]; exact ih.i_kind_of_weigh, T.b_kind_of_weigh⟩, T.f_kind_of_weigh.kp, by rw [h8]; exact Ag rfl⟩
 · exact ⟨⟨_, _, by rw [h6, h8]; exact ih.i_kind_of_plus, T.b_kind_of_plus⟩, T.f_kind_of_plus.kp, by rw [h8]; exact Ag rfl⟩
 · exact ⟨⟨_, _, by rw [h6, h8]; exact ih.i_kind_of_call, T.b_kind_of_call⟩, T.f_kind_of_call.kp, by rw [h8]; exact Ag rfl⟩
 · exact ⟨⟨_, _, by rw [h6, h8]; exact ih.i_kind_of_read, T.b_kind_of_read⟩, T.f_kind_of_read.kp, by rw [h8]; exact Ag rfl⟩
 · exact ⟨⟨_, _, by rw [h6, h8]; exact ih.i_kind_of_put, T.b_kind_of_put⟩, T.f_kind_of_put.kp, by rw [h8]; exact Ag rfl⟩
theorem acv : FnScope ["term"] ["term"] (Ao fx) := ⟨rfl, rfl, rfl, by decide +kernel, rfl, by decide +kernel, by decide +kernel⟩
theorem qz : Lv fx "term" := by decide +kernel
theorem acw : FnScope ["read"] ["read"] (Ao Fx) := ⟨rfl, rfl, rfl, by decide +kernel, rfl, by decide +kernel, by decide +kernel⟩
theorem acx : Lv Fx "read" := by decide +kernel
theorem acy : FnScope ["read"] ["read"] (Ao fy) := ⟨rfl, rfl, rfl, by decide +kernel, rfl, by decide +kernel, by decide +kernel⟩
theorem Qz : Lv fy "read" := by decide +kernel
theorem acz : FnScope ["read"] ["read"] (Ao Fy) := ⟨rfl, rfl, rfl, by decide +kernel, rfl, by decide +kernel, by decide +kernel⟩
theorem ra : Lv Fy "read" := by decide +kernel
theorem ada : FnScope ["thing"] ["thing"] (Ao Fz) := ⟨rfl, rfl, rfl, by decide +kernel, rfl, by decide +kernel, by decide +kernel⟩
theorem Ra : Lv Fz "thing" := by decide +kernel
theorem Md : FnScope ["thing", "top", "bottom"] ["thing"] (Ao Eg) := ⟨rfl, rfl, rfl, by decide +kernel, rfl, by decide +kernel, by decide +kernel⟩
theorem me : Lv Eg "thing" := by decide +kernel
theorem Me : Lv Eg "top" := by decide +kernel
theorem Jt : Lv Eg "bottom" := by decide +kernel
theorem mf : FnScope ["one", "other"] ["one", "other"] (Ao fg) := ⟨rfl, rfl, rfl, by decide +kernel, rfl, by decide +kernel, by decide +kernel⟩
theorem ie : Lv fg "one" := by decide +kernel
theorem He : Lv fg "other" := by decide +kernel
theorem adb : FnScope ["thing"] ["thing"] (Ao Ga) := ⟨rfl, rfl, rfl, by decide +kernel, rfl, by decide +kernel, by decide +kernel⟩
theorem Mf : Lv Ga "thing" := by decide +kernel
theorem ade : FnScope ["thing"] ["thing"] (Ao gb) := ⟨rfl, rfl, rfl, by decide +kernel, rfl, by decide +kernel, by decide +kernel⟩
theorem Mg : Lv gb "thing" := by decide +kernel
theorem adf : FnScope ["thing"] ["thing"] (Ao Gb) := ⟨rfl, rfl, rfl, by decide +kernel, rfl, by decide +kernel, by decide +kernel⟩
theorem rb : Lv Gb "thing" := by decide +kernel
theorem adg : FnScope ["thing"] ["thing"] (Ao gc) := ⟨rfl, rfl, rfl, by decide +kernel, rfl, by decide +kernel, by decide +kernel⟩
theorem Rb : Lv gc "thing" := by decide +kernel
theorem adh : FnScope ["thing"] ["thing"] (Ao gd) := ⟨rfl, rfl, rfl, by decide +kernel, rfl, by decide +kernel, by decide +kernel⟩
theorem Hf : Lv gd "thing" := by decide +kernel
theorem adi : FnScope ["thing"] ["thing"] (Ao Gd) := ⟨rfl, rfl, rfl, by decide +kernel, rfl, by decide +kernel, by decide +kernel⟩
theorem Ie : Lv Gd "thing" := by decide +kernel
theorem Hg : FnScope ["wholes", "values", "name", "low", "high"] ["wholes"] (Ao dk) := ⟨rfl, rfl, rfl, by decide +kernel, rfl, by decide +kernel, by decide +kernel⟩
theorem mh : Lv dk "wholes" := by decide +kernel
theorem Mh : Lv dk "values" := by decide +kernel
theorem adj : Lv dk "name" := by decide +kernel
theorem Rc : Lv dk "low" := by decide +kernel
theorem rf : Lv dk "high" := by decide +kernel
theorem adk : FnScope ["functions"] ["functions"] (Ao Ge) := ⟨rfl, rfl, rfl, by decide +kernel, rfl, by decide +kernel, by decide +kernel⟩
theorem Rf : Lv Ge "functions" := by decide +kernel
theorem adl : FnScope ["names"] ["names"] (Ao gf) := ⟨rfl, rfl, rfl, by decide +kernel, rfl, by decide +kernel, by decide +kernel⟩
theorem adm : Lv gf "names" := by decide +kernel
theorem adn : FnScope ["rows"] ["rows"] (Ao Gf) := ⟨rfl, rfl, rfl, by decide +kernel, rfl, by decide +kernel, by decide +kernel⟩
theorem ado : Lv Gf "rows" := by decide +kernel
theorem adp : FnScope ["names"] ["names"] (Ao Gg) := ⟨rfl, rfl, rfl, by decide +kernel, rfl, by decide +kernel, by decide +kernel⟩
theorem rg : Lv Gg "names" := by decide +kernel
theorem Rg : FnScope ["self", "numbers", "wholes", "things", "functions", "arrays", "names"] ["self", "numbers", "wholes", "things", "functions", "arrays"] (Ao Cz) := ⟨rfl, rfl, rfl, by decide +kernel, rfl, by decide +kernel, by decide +kernel⟩
theorem du : Lv Cz "self" := by decide +kernel
theorem ju : Lv Cz "numbers" := by decide +kernel
theorem ig : Lv Cz "wholes" := by decide +kernel
theorem Ju : Lv Cz "things" := by decide +kernel
theorem jv : Lv Cz "functions" := by decide +kernel
theorem Jv : Lv Cz "arrays" := by decide +kernel
theorem rh : Lv Cz "names" := by decide +kernel
theorem adq : FnScope ["self", "name"] ["self", "name"] (Ao Fg) := ⟨rfl, rfl, rfl, by decide +kernel, rfl, by decide +kernel, by decide +kernel⟩
theorem ads : Lv Fg "self" := by decide +kernel
theorem Rh : Lv Fg "name" := by decide +kernel
theorem adt : FnScope ["self", "name"] ["self", "name"] (Ao fh) := ⟨rfl, rfl, rfl, by decide +kernel, rfl, by decide +kernel, by decide +kernel⟩
theorem adu : Lv fh "self" := by decide +kernel
theorem ri : Lv fh "name" := by decide +kernel
theorem adv : FnScope ["thing"] ["thing"] (Ao gh) := ⟨rfl, rfl, rfl, by decide +kernel, rfl, by decide +kernel, by decide +kernel⟩
theorem jw : Lv gh "thing" := by decide +kernel
theorem adw : FnScope ["names", "term"] ["names", "term"] (Ao Fh) := ⟨rfl, rfl, rfl, by decide +kernel, rfl, by decide +kernel, by decide +kernel⟩
theorem adx : Lv Fh "names" := by decide +kernel
theorem ady : Lv Fh "term" := by decide +kernel
theorem mi : FnScope ["names", "term", "room", "word", "deed"] ["names", "term", "room"] (Ao Dk) := ⟨rfl, rfl, rfl, by decide +kernel, rfl, by decide +kernel, by decide +kernel⟩
theorem adz : Lv Dk "names" := by decide +kernel
theorem Mi : Lv Dk "term" := by decide +kernel
theorem Ri : Lv Dk "room" := by decide +kernel
theorem Jw : Lv Dk "word" := by decide +kernel
theorem rj : Lv Dk "deed" := by decide +kernel
theorem mj : FnScope ["names", "terms", "kinds", "room", "term", "kind"] ["names", "terms", "kinds", "room"] (Ao Dd) := ⟨rfl, rfl, rfl, by decide +kernel, rfl, by decide +kernel, by decide +kernel⟩
theorem aea : Lv Dd "names" := by decide +kernel
theorem Mj : Lv Dd "terms" := by decide +kernel
theorem Rj : Lv Dd "kinds" := by decide +kernel
theorem aeb : Lv Dd "room" := by decide +kernel
theorem Rk : Lv Dd "term" := by decide +kernel
theorem Rl : Lv Dd "kind" := by decide +kernel
theorem aec : FnScope ["names", "term", "room"] ["names", "term", "room"] (Ao Gh) := ⟨rfl, rfl, rfl, by decide +kernel, rfl, by decide +kernel, by decide +kernel⟩
theorem aed : Lv Gh "term" := by decide +kernel
theorem Rm : FnScope ["names", "term", "room", "kind"] ["names", "term", "room"] (Ao Eh) := ⟨rfl, rfl, rfl, by decide +kernel, rfl, by decide +kernel, by decide +kernel⟩
theorem aee : Lv Eh "names" := by decide +kernel
theorem aef : Lv Eh "term" := by decide +kernel
theorem ml : Lv Eh "kind" := by decide +kernel
theorem aeg : FnScope ["names", "term", "room"] ["names", "term", "room"] (Ao Ei) := ⟨rfl, rfl, rfl, by decide +kernel, rfl, by decide +kernel, by decide +kernel⟩
theorem aeh : Lv Ei "names" := by decide +kernel
theorem rn : Lv Ei "term" := by decide +kernel
theorem aei : Lv Ei "room" := by decide +kernel
theorem aej : FnScope ["names", "term", "room"] ["names", "term", "room"] (Ao ej) := ⟨rfl, rfl, rfl, by decide +kernel, rfl, by decide +kernel, by decide +kernel⟩
theorem aek : Lv ej "names" := by decide +kernel
theorem Ml : Lv ej "term" := by decide +kernel
theorem ael : Lv ej "room" := by decide +kernel
theorem jx : FnScope ["names", "term", "room", "function", "kinds", "kind"] ["names", "term", "room"] (Ao de) := ⟨rfl, rfl, rfl, by decide +kernel, rfl, by decide +kernel, by decide +kernel⟩
theorem Rn : Lv de "names" := by decide +kernel
theorem ro : Lv de "term" := by decide +kernel
theorem aem : Lv de "room" := by decide +kernel
theorem Mm : Lv de "function" := by decide +kernel
theorem Ro : Lv de "kinds" := by decide +kernel
theorem Rp : Lv de "kind" := by decide +kernel
theorem aen : FnScope ["names", "term", "room"] ["names", "term", "room"] (Ao Ej) := ⟨rfl, rfl, rfl, by decide +kernel, rfl, by decide +kernel, by decide +kernel⟩
theorem aeo : Lv Ej "names" := by decide +kernel
theorem aep : Lv Ej "term" := by decide +kernel
theorem aeq : Lv Ej "room" := by decide +kernel
theorem aer : FnScope ["names", "term", "room"] ["names", "term", "room"] (Ao Ek) := ⟨rfl, rfl, rfl, by decide +kernel, rfl, by decide +kernel, by decide +kernel⟩
theorem aes : Lv Ek "names" := by decide +kernel
theorem aet : Lv Ek "term" := by decide +kernel
theorem aeu : Lv Ek "room" := by decide +kernel
theorem aev : FnScope ["names", "statement"] ["names", "statement"] (Ao Fi) := ⟨rfl, rfl, rfl, by decide +kernel, rfl, by decide +kernel, by decide +kernel⟩
theorem aew : Lv Fi "names" := by decide +kernel
theorem aex : Lv Fi "statement" := by decide +kernel
theorem rq : FnScope ["names", "statement", "room", "word"] ["names", "statement", "room"] (Ao dt) := ⟨rfl, rfl, rfl, by decide +kernel, rfl, by decide +kernel, by decide +kernel⟩
theorem aey : Lv dt "names" := by decide +kernel
theorem mn : Lv dt "statement" := by decide +kernel
theorem Rq : Lv dt "room" := by decide +kernel
theorem Ig : Lv dt "word" := by decide +kernel
theorem Rr : FnScope ["names", "atom", "room", "kind"] ["names", "atom", "room"] (Ao Dt) := ⟨rfl, rfl, rfl, by decide +kernel, rfl, by decide +kernel, by decide +kernel⟩
theorem Rt : Lv Dt "names" := by decide +kernel
theorem Mn : Lv Dt "atom" := by decide +kernel
theorem Ru : Lv Dt "room" := by decide +kernel
theorem Jx : Lv Dt "kind" := by decide +kernel
theorem Gi : FnScope ["_law_cell", "_law_many", "_law_found", "_law_left", "_law_number", "_law_step"] ["_law_cell", "_law_many"] (Ao De) := ⟨rfl, rfl, rfl, by decide +kernel, rfl, by decide +kernel, by decide +kernel⟩
theorem Rv : Lv De "_law_cell" := by decide +kernel
theorem Rw : Lv De "_law_many" := by decide +kernel
theorem gj : Lv De "_law_found" := by decide +kernel
theorem Ih : Lv De "_law_left" := by decide +kernel
theorem Hh : Lv De "_law_number" := by decide +kernel
theorem Rx : Lv De "_law_step" := by decide +kernel
theorem aez : FnScope ["_law_xs"] ["_law_xs"] (Ao gi) := ⟨rfl, rfl, rfl, by decide +kernel, rfl, by decide +kernel, by decide +kernel⟩
theorem Ry : Lv gi "_law_xs" := by decide +kernel
theorem Mo : FnScope ["_law_number", "_law_top", "_law_bottom"] ["_law_number"] (Ao El) := ⟨rfl, rfl, rfl, by decide +kernel, rfl, by decide +kernel, by decide +kernel⟩
theorem rz : Lv El "_law_number" := by decide +kernel
theorem jy : Lv El "_law_top" := by decide +kernel
theorem Ii : Lv El "_law_bottom" := by decide +kernel
theorem Ij : FnScope ["_law_xs", "_law_deep", "_law_number", "_law_way", "_law_array_here", "_law_one"] ["_law_xs", "_law_deep"] (Ao df) := ⟨rfl, rfl, rfl, by decide +kernel, rfl, by decide +kernel, by decide +kernel⟩
theorem Gj : Lv df "_law_xs" := by decide +kernel
theorem gk : Lv df "_law_deep" := by decide +kernel
theorem Ik : Lv df "_law_number" := by decide +kernel
theorem Hi : Lv df "_law_way" := by decide +kernel
theorem Rz : Lv df "_law_array_here" := by decide +kernel
theorem Sa : Lv df "_law_one" := by decide +kernel
theorem Jy : FnScope ["_law_xs", "_law_deep", "_law_number", "_law_inner", "_law_place"] ["_law_xs", "_law_deep"] (Ao Dl) := ⟨rfl, rfl, rfl, by decide +kernel, rfl, by decide +kernel, by decide +kernel⟩
theorem jz : Lv Dl "_law_xs" := by decide +kernel
theorem Jz : Lv Dl "_law_deep" := by decide +kernel
theorem Mp : Lv Dl "_law_number" := by decide +kernel
theorem Sb : Lv Dl "_law_inner" := by decide +kernel
theorem sd : Lv Dl "_law_place" := by decide +kernel
theorem Hj : FnScope ["_law_cell", "_law_xs", "_law_array_here", "_law_k", "_law_place"] ["_law_cell"] (Ao dm) := ⟨rfl, rfl, rfl, by decide +kernel, rfl, by decide +kernel, by decide +kernel⟩
theorem Hk : Lv dm "_law_cell" := by decide +kernel
theorem Ka : Lv dm "_law_xs" := by decide +kernel
theorem Kb : Lv dm "_law_array_here" := by decide +kernel
theorem afa : Lv dm "_law_k" := by decide +kernel
theorem Se : Lv dm "_law_place" := by decide +kernel
theorem Sf : FnScope ["_law_names", "_law_term_here", "_law_turn"] ["_law_names", "_law_term_here"] (Ao Em) := ⟨rfl, rfl, rfl, by decide +kernel, rfl, by decide +kernel, by decide +kernel⟩
theorem mq : Lv Em "_law_names" := by decide +kernel
theorem Dm : Lv Em "_law_term_here" := by decide +kernel
theorem afb : Lv Em "_law_turn" := by decide +kernel
theorem fj : FnScope ["_law_script", "_law_names", "_law_cell", "_law_term_here", "_law_puts", "_law_k", "_law_other"] ["_law_script"] (Ao Cs) := ⟨rfl, rfl, rfl, by decide +kernel, rfl, by decide +kernel, by decide +kernel⟩
theorem afc : Lv Cs "_law_script" := by decide +kernel
theorem Sg : Lv Cs "_law_names" := by decide +kernel
theorem Mq : Lv Cs "_law_cell" := by decide +kernel
theorem En : Lv Cs "_law_term_here" := by decide +kernel
theorem sh : Lv Cs "_law_puts" := by decide +kernel
theorem afd : Lv Cs "_law_k" := by decide +kernel
theorem kc : Lv Cs "_law_other" := by decide +kernel
section
variable {n : Nat} (hw : cls.w = w) (T : Txt K mg fd cls) (ih : IH Pr w K mg base fd cls FF n)
include hw T ih
theorem afe : Fk Pr w K mg base fd cls FF (n + 1) 1 ["term"] 1 := by
 refine aw (m := 2 * n + 1) (body' := qo) T.f_is_read_of_put acv rfl fun cdv A outer s H E hrm => ?_
 have hr := hrm.mono (show 2 * n ≤ 2 * n + 1 by omega)
 have hu := hr.units
 subst hw
 refine Ab ?_ ?_
 refine aq ?_
 refine Dz ?_ ?_
 refine Gw ?_ ?_ ?_ ?_
 rfl
 exact hu
 refine ar ?_ ?_ ?_ ?_ ?_ ?_
 rfl
 rfl
 exact hu
 exact sv qz
 exact ae
 intro _ _; rfl
 exact Ah
 refine Fe ?_
 refine Gw ?_ ?_ ?_ ?_
 rfl
 exact hu
 refine ar ?_ ?_ ?_ ?_ ?_ ?_
 rfl
 rfl
 exact hu
 refine ar ?_ ?_ ?_ ?_ ?_ ?_
 rfl
 rfl
 exact hu
 exact sv qz
 exact ae
 intro _ _; rfl
 exact ae
 intro _ _; rfl
 exact Ah
 exact Ae
theorem aff : Fk Pr w K mg base fd cls FF (n + 1) 2 ["read"] 1 := by
 refine aw (m := 2 * n + 1) (body' := Qo) T.f_hit acw rfl fun cdv A outer s H E hrm => ?_
 have hr := hrm.mono (show 2 * n ≤ 2 * n + 1 by omega)
 have hu := hr.units
 subst hw
 refine Ab ?_ ?_
 refine aq ?_
 refine ar ?_ ?_ ?_ ?_ ?_ ?_
 rfl
 rfl
 exact hu
 refine ar ?_ ?_ ?_ ?_ ?_ ?_
 rfl
 rfl
 exact hu
 exact sv acx
 exact ae
 intro _ _; rfl
 exact ae
 intro _ _; rfl
 exact Ae
theorem afg : Fk Pr w K mg base fd cls FF (n + 1) 3 ["read"] 1 := by
 refine aw (m := 2 * n + 1) (body' := qp) T.f_miss acy rfl fun cdv A outer s H E hrm => ?_
 have hr := hrm.mono (show 2 * n ≤ 2 * n + 1 by omega)
 have hu := hr.units
 subst hw
 refine Ab ?_ ?_
 refine aq ?_
 refine Ax ?_
 refine Aa ?_ ?_
 exact Ah
 refine Aa ?_ ?_
 refine ar ?_ ?_ ?_ ?_ ?_ ?_
 rfl
 rfl
 exact hu
 refine ar ?_ ?_ ?_ ?_ ?_ ?_
 rfl
 rfl
 exact hu
 exact sv Qz
 exact ae
 intro _ _; rfl
 exact ae
 intro _ _; rfl
 refine Aa ?_ ?_
 refine ar ?_ ?_ ?_ ?_ ?_ ?_
 rfl
 rfl
 exact hu
 exact sv Qz
 exact ae
 intro _ _; rfl
 exact Ad
 exact Ae
theorem afh : Fk Pr w K mg base fd cls FF (n + 1) 4 ["read"] 1 := by
 refine aw (m := 2 * n + 1) (body' := Qp) T.f_need acz rfl fun cdv A outer s H E hrm => ?_
 have hr := hrm.mono (show 2 * n ≤ 2 * n + 1 by omega)
 have hu := hr.units
 subst hw
 refine Ab ?_ ?_
 refine aq ?_
 refine Ax ?_
 refine Aa ?_ ?_
 exact Ah
 refine Aa ?_ ?_
 refine ar ?_ ?_ ?_ ?_ ?_ ?_
 rfl
 rfl
 exact hu
 exact sv ra
 exact ae
 intro _ _; rfl
 refine Aa ?_ ?_
 refine ar ?_ ?_ ?_ ?_ ?_ ?_
 rfl
 rfl
 exact hu
 refine ar ?_ ?_ ?_ ?_ ?_ ?_
 rfl
 rfl
 exact hu
 exact sv ra
 exact ae
 intro _ _; rfl
 exact ae
 intro _ _; rfl
 exact Ad
 exact Ae
theorem afi : Fk Pr w K mg base fd cls FF (n + 1) 5 ["thing"] 1 := by
 refine aw (m := 2 * n + 1) (body' := qq) T.f_is_whole ada rfl fun cdv A outer s H E hrm => ?_
 have hr := hrm.mono (show 2 * n ≤ 2 * n + 1 by omega)
 have hu := hr.units
 subst hw
 refine Ab ?_ ?_
 refine aq ?_
 refine Dz ?_ ?_
 refine cg ?_ ?_ ?_ ?_ T.z_isinstance ?_ T.z_int ?_ ?_
 rfl
 decide
 exact fun n => Ci (n := n) (x := "int") (by decide)
 rfl
 rfl
 rfl
 exact sv Ra
 refine Fe ?_
 refine xv ?_
 refine cg ?_ ?_ ?_ ?_ T.z_isinstance ?_ T.z_bool ?_ ?_
 rfl
 decide
 exact fun n => Ci (n := n) (x := "bool") (by decide)
 rfl
 rfl
 rfl
 exact sv Ra
 exact Ae
theorem afj : Fk Pr w K mg base fd cls FF (n + 1) 6 ["thing"] 1 := by
 refine aw (m := 2 * n + 1) (body' := Qq) T.f_is_fraction Md rfl fun cdv A outer s H E hrm => ?_
 have hr := hrm.mono (show 2 * n ≤ 2 * n + 1 by omega)
 have hu := hr.units
 subst hw
 refine Ab ?_ ?_
 refine ba ?_ ?_ ?_
 refine PW.pt ?_
 refine bp ?_ ?_
 refine Bm ?_
 refine Bl ?_ ?_ ?_ ?_
 rfl
 refine cg ?_ ?_ ?_ ?_ T.z_isinstance ?_ T.z_tuple ?_ ?_
 rfl
 decide
 exact fun n => Ci (n := n) (x := "tuple") (by decide)
 rfl
 rfl
 rfl
 exact sv me
 exact di
 intro _; rfl
 refine Bx ?_
 refine cb ?_ ?_ ?_ ?_
 rfl
 exact hu
 refine cx ?_ ?_ T.z_len ?_
 rfl
 rfl
 refine Aa ?_ ?_
 exact sv me
 exact Ad
 exact ae
 refine Ab ?_ ?_
 refine aq ?_
 exact cn
 exact Ae
 exact Ae
 refine Ab ?_ ?_
 refine ox (is := [1, 2]) ?_ ?_
 exact sv me
 refine gp ?_ ?_
 rfl
 refine Cj ?_ ?_
 refine cp (i := 1) ?_ ?_ ?_
 exact Md.nd
 rfl
 exact Or.inl Me
 refine Cj ?_ ?_
 refine cp (i := 2) ?_ ?_ ?_
 exact Md.nd
 rfl
 exact Or.inl Jt
 exact Gn
 refine Ab ?_ ?_
 refine ba ?_ ?_ ?_
 refine PW.pt ?_
 refine bp ?_ ?_
 refine Bm ?_
 refine Bl ?_ ?_ ?_ ?_
 rfl
 refine ai ih.i_is_whole hr (by rfl) T.m_is_whole T.f_is_whole.kp T.b_is_whole .nil Ai aj (Ag rfl) ?_
 refine Aa ?_ ?_
 exact sv Me
 exact Ad
 exact Dh
 intro _; rfl
 refine Bx ?_
 refine Bm ?_
 refine Bl ?_ ?_ ?_ ?_
 rfl
 refine ai ih.i_is_whole hr (by rfl) T.m_is_whole T.f_is_whole.kp T.b_is_whole .nil Ai aj (Ag rfl) ?_
 refine Aa ?_ ?_
 exact sv Jt
 exact Ad
 exact Dh
 intro _; rfl
 refine Ab ?_ ?_
 refine aq ?_
 exact cn
 exact Ae
 exact Ae
 refine Ab ?_ ?_
 refine aq ?_
 refine Dz ?_ ?_
 refine Xq ?_ ?_
 exact sv Jt
 exact ae
 refine Fe ?_
 refine Gw ?_ ?_ ?_ ?_
 rfl
 exact hu
 refine ai ih.i_common_divisor hr (by rfl) T.m_common_divisor T.f_common_divisor.kp T.b_common_divisor .nil Ai aj (Ag rfl) ?_
 refine Aa ?_ ?_
 exact sv Me
 refine Aa ?_ ?_
 exact sv Jt
 exact Ad
 exact ae
 exact Ae
theorem afk : Fk Pr w K mg base fd cls FF (n + 1) 7 ["one", "other"] 2 := by
 refine aw (m := 2 * n + 1) (body' := qr) T.f_common_divisor mf rfl fun cdv A outer s H E hrm => ?_
 have hr := hrm.mono (show 2 * n ≤ 2 * n + 1 by omega)
 have hu := hr.units
 subst hw
 refine Ab ?_ ?_
 refine Ox (i := 0) (j := 1) ?_ ?_ ?_ ?_ ?_ ?_ ?_ ?_ ?_ ?_
 rfl
 exact mf.nd
 rfl
 rfl
 decide
 exact ie
 exact He
 refine Ou ?_ T.z_abs ?_
 rfl
 refine Aa ?_ ?_
 exact sv ie
 exact Ad
 refine Ou ?_ T.z_abs ?_
 rfl
 refine Aa ?_ ?_
 exact sv He
 exact Ad
 rfl
 refine Ab ?_ ?_
 refine Lb ?_ ?_ ?_
 exact PassesOwn.leaving
 refine cb ?_ ?_ ?_ ?_
 rfl
 exact hu
 exact sv He
 exact ae
 refine Ab ?_ ?_
 refine Ox (i := 0) (j := 1) ?_ ?_ ?_ ?_ ?_ ?_ ?_ ?_ ?_ ?_
 rfl
 exact mf.nd
 rfl
 rfl
 decide
 exact ie
 exact He
 exact sv He
 refine bx ?_ ?_
 exact sv ie
 exact sv He
 rfl
 exact Ae
 refine Ab ?_ ?_
 refine aq ?_
 exact sv ie
 exact Ae
theorem afl : Fk Pr w K mg base fd cls FF (n + 1) 8 ["thing"] 1 := by
 refine aw (m := 2 * n + 1) (body' := Qr) T.f_is_name adb rfl fun cdv A outer s H E hrm => ?_
 have hr := hrm.mono (show 2 * n ≤ 2 * n + 1 by omega)
 have hu := hr.units
 subst hw
 refine Ab ?_ ?_
 refine ba ?_ ?_ ?_
 refine PW.pt ?_
 refine bp ?_ ?_
 refine Bm ?_
 refine Bl ?_ ?_ ?_ ?_
 rfl
 refine cg ?_ ?_ ?_ ?_ T.z_isinstance ?_ T.z_str ?_ ?_
 rfl
 decide
 exact fun n => Ci (n := n) (x := "str") (by decide)
 rfl
 rfl
 rfl
 exact sv Mf
 exact di
 intro _; rfl
 refine Bx ?_
 refine Bm ?_
 refine Yb (c1 := .le) (c2 := .le) ?_ ?_ ?_ ?_ ?_ ?_
 rfl
 rfl
 exact hu
 exact ae
 refine cx ?_ ?_ T.z_len ?_
 rfl
 rfl
 refine Aa ?_ ?_
 exact sv Mf
 exact Ad
 exact Fv (by rfl) T.gc_LONGEST_NAME.choose_spec.1 T.gc_LONGEST_NAME.choose_spec.2 (fun _ _ => by simp [DD.G.Rep, DD.Rep])
 refine Ab ?_ ?_
 refine aq ?_
 exact cn
 exact Ae
 exact Ae
 refine Ab ?_ ?_
 refine aq ?_
 refine Hw ?_ ?_ ?_ T.z_all ?_
 rfl
 rfl
 rfl
 refine Aa ?_ ?_
 refine gy (cl := []) (N := ["sign"]) (nl := 1) (fv := []) (tgs := [0]) (one := true) (k := 3) ?_ ?_ ?_ ?_ ?_ ?_ ?_ ?_ ?_ ?_ ?_ ?_ ?_ ?_
 rfl
 rfl
 rfl
 decide
 decide
 rfl
 refine Di ?_ ?_
 exact trivial
 rfl
 rfl
 refine dj ?_
 exact trivial
 decide
 refine Yp ?_
 exact sv Mf
 intro L s0 H0 fp pn
 refine Cb ?_ ?_ ?_ ?_
 show List.Nodup (["sign"] : List Str); decide
 rfl
 exact Or.inl rfl
 refine Or.inr ?_
 exact rfl
 intro L s0 H0 fp pn
 exact dh
 intro L s0 H0 fp pn
 refine Ot ?_ ?_ ?_ ?_ ?_
 rfl
 rfl
 exact hu
 refine Cf 0 ?_
 exact pv 0
 exact Fv (by rfl) T.gc_LETTERS.choose_spec.1 T.gc_LETTERS.choose_spec.2 (fun _ _ => by simp [DD.G.Rep, DD.Rep])
 exact Ad
 exact Ae
theorem afm : Fk Pr w K mg base fd cls FF (n + 1) 9 ["thing"] 1 := by
 refine aw (m := 2 * n + 1) (body' := Qs) T.f_is_row ade rfl fun cdv A outer s H E hrm => ?_
 have hr := hrm.mono (show 2 * n ≤ 2 * n + 1 by omega)
 have hu := hr.units
 subst hw
 refine Ab ?_ ?_
 refine aq ?_
 refine Dz ?_ ?_
 refine cg ?_ ?_ ?_ ?_ T.z_isinstance ?_ T.z_tuple ?_ ?_
 rfl
 decide
 exact fun n => Ci (n := n) (x := "tuple") (by decide)
 rfl
 rfl
 rfl
 exact sv Mg
 refine Dz ?_ ?_
 refine Gw ?_ ?_ ?_ ?_
 rfl
 exact hu
 refine cx ?_ ?_ T.z_len ?_
 rfl
 rfl
 refine Aa ?_ ?_
 exact sv Mg
 exact Ad
 exact ae
 refine Fe ?_
 refine ai ih.i_is_name hr (by rfl) T.m_is_name T.f_is_name.kp T.b_is_name .nil Ai aj (Ag rfl) ?_
 refine Aa ?_ ?_
 refine ar ?_ ?_ ?_ ?_ ?_ ?_
 rfl
 rfl
 exact hu
 exact sv Mg
 exact ae
 intro _ _; rfl
 exact Ad
 exact Ae
theorem afn : Fk Pr w K mg base fd cls FF (n + 1) 10 ["thing"] 1 := by
 refine aw (m := 2 * n + 1) (body' := qt) T.f_is_kind adf rfl fun cdv A outer s H E hrm => ?_
 have hr := hrm.mono (show 2 * n ≤ 2 * n + 1 by omega)
 have hu := hr.units
 subst hw
 refine Ab ?_ ?_
 refine aq ?_
 refine Dz ?_ ?_
 refine cg ?_ ?_ ?_ ?_ T.z_isinstance ?_ T.z_str ?_ ?_
 rfl
 decide
 exact fun n => Ci (n := n) (x := "str") (by decide)
 rfl
 rfl
 rfl
 exact sv rb
 refine Fe ?_
 refine Ot ?_ ?_ ?_ ?_ ?_
 rfl
 rfl
 exact hu
 exact sv rb
 refine Ax ?_
 refine Aa ?_ ?_
 exact Ah
 refine Aa ?_ ?_
 exact Ah
 exact Ad
 exact Ae
theorem afo : Fk Pr w K mg base fd cls FF (n + 1) 11 ["thing"] 1 := by
 refine aw (m := 2 * n + 1) (body' := Qt) T.f_is_list_of_names adg rfl fun cdv A outer s H E hrm => ?_
 have hr := hrm.mono (show 2 * n ≤ 2 * n + 1 by omega)
 have hu := hr.units
 subst hw
 refine Ab ?_ ?_
 refine aq ?_
 refine Dz ?_ ?_
 refine cg ?_ ?_ ?_ ?_ T.z_isinstance ?_ T.z_list ?_ ?_
 rfl
 decide
 exact fun n => Ci (n := n) (x := "list") (by decide)
 rfl
 rfl
 rfl
 exact sv Rb
 refine Fe ?_
 refine Hw ?_ ?_ ?_ T.z_all ?_
 rfl
 rfl
 rfl
 refine Aa ?_ ?_
 refine gy (cl := []) (N := ["part"]) (nl := 1) (fv := []) (tgs := [0]) (one := true) (k := 0) ?_ ?_ ?_ ?_ ?_ ?_ ?_ ?_ ?_ ?_ ?_ ?_ ?_ ?_
 rfl
 rfl
 rfl
 decide
 decide
 rfl
 refine Di ?_ ?_
 exact trivial
 rfl
 rfl
 refine dj ?_
 exact trivial
 decide
 refine Eb ?_ ?_
 rfl
 exact sv Rb
 intro L s0 H0 fp pn
 refine Cb ?_ ?_ ?_ ?_
 show List.Nodup (["part"] : List Str); decide
 rfl
 exact Or.inl rfl
 refine Or.inr ?_
 exact rfl
 intro L s0 H0 fp pn
 exact dh
 intro L s0 H0 fp pn
 refine ai ih.i_is_name hr (by rfl) T.m_is_name T.f_is_name.kp T.b_is_name .nil Ai Ic (Ag rfl) ?_
 refine Aa ?_ ?_
 refine Cf 0 ?_
 exact pv 0
 exact Ad
 exact Ad
 exact Ae
theorem afp : Fk Pr w K mg base fd cls FF (n + 1) 12 ["thing"] 1 := by
 refine aw (m := 2 * n + 1) (body' := qu) T.f_is_bounded adh rfl fun cdv A outer s H E hrm => ?_
 have hr := hrm.mono (show 2 * n ≤ 2 * n + 1 by omega)
 have hu := hr.units
 subst hw
 refine Ab ?_ ?_
 refine ba ?_ ?_ ?_
 refine PW.pt ?_
 refine bp ?_ ?_
 refine Bm ?_
 refine Bl ?_ ?_ ?_ ?_
 rfl
 refine ai ih.i_is_row hr (by rfl) T.m_is_row T.f_is_row.kp T.b_is_row .nil Ai aj (Ag rfl) ?_
 refine Aa ?_ ?_
 exact sv Hf
 exact Ad
 exact Dh
 intro _; rfl
 refine bp ?_ ?_
 refine Bm ?_
 refine Bl ?_ ?_ ?_ ?_
 rfl
 refine ai ih.i_is_whole hr (by rfl) T.m_is_whole T.f_is_whole.kp T.b_is_whole .nil Ai aj (Ag rfl) ?_
 refine Aa ?_ ?_
 refine ar ?_ ?_ ?_ ?_ ?_ ?_
 rfl
 rfl
 exact hu
 exact sv Hf
 exact ae
 intro _ _; rfl
 exact Ad
 exact Dh
 intro _; rfl
 refine Bx ?_
 refine Bm ?_
 refine Bl ?_ ?_ ?_ ?_
 rfl
 refine ai ih.i_is_whole hr (by rfl) T.m_is_whole T.f_is_whole.kp T.b_is_whole .nil Ai aj (Ag rfl) ?_
 refine Aa ?_ ?_
 refine ar ?_ ?_ ?_ ?_ ?_ ?_
 rfl
 rfl
 exact hu
 exact sv Hf
 exact ae
 intro _ _; rfl
 exact Ad
 exact Dh
 intro _; rfl
 refine Ab ?_ ?_
 refine aq ?_
 exact cn
 exact Ae
 exact Ae
 refine Ab ?_ ?_
 refine aq ?_
 refine Pc (c1 := .le) (c2 := .le) ?_ ?_ ?_ ?_ ?_ ?_
 rfl
 rfl
 exact hu
 refine ar ?_ ?_ ?_ ?_ ?_ ?_
 rfl
 rfl
 exact hu
 exact sv Hf
 exact ae
 intro _ _; rfl
 refine ar ?_ ?_ ?_ ?_ ?_ ?_
 rfl
 rfl
 exact hu
 exact sv Hf
 exact ae
 intro _ _; rfl
 refine cw ?_ ?_
 refine ar ?_ ?_ ?_ ?_ ?_ ?_
 rfl
 rfl
 exact hu
 exact sv Hf
 exact ae
 intro _ _; rfl
 exact Fv (by rfl) T.gc_WIDEST_BOUNDS.choose_spec.1 T.gc_WIDEST_BOUNDS.choose_spec.2 (fun _ _ => by simp [DD.G.Rep, DD.Rep])
 exact Ae
theorem afq : Fk Pr w K mg base fd cls FF (n + 1) 13 ["thing"] 1 := by
 refine aw (m := 2 * n + 1) (body' := Qu) T.f_is_function adi rfl fun cdv A outer s H E hrm => ?_
 have hr := hrm.mono (show 2 * n ≤ 2 * n + 1 by omega)
 have hu := hr.units
 subst hw
 refine Ab ?_ ?_
 refine ba ?_ ?_ ?_
 refine PW.pt ?_
 refine bp ?_ ?_
 refine Bm ?_
 refine Bl ?_ ?_ ?_ ?_
 rfl
 refine ai ih.i_is_row hr (by rfl) T.m_is_row T.f_is_row.kp T.b_is_row .nil Ai aj (Ag rfl) ?_
 refine Aa ?_ ?_
 exact sv Ie
 exact Ad
 exact Dh
 intro _; rfl
 refine bp ?_ ?_
 refine Bm ?_
 refine Bl ?_ ?_ ?_ ?_
 rfl
 refine cg ?_ ?_ ?_ ?_ T.z_isinstance ?_ T.z_tuple ?_ ?_
 rfl
 decide
 exact fun n => Ci (n := n) (x := "tuple") (by decide)
 rfl
 rfl
 rfl
 refine ar ?_ ?_ ?_ ?_ ?_ ?_
 rfl
 rfl
 exact hu
 exact sv Ie
 exact ae
 intro _ _; rfl
 exact di
 intro _; rfl
 refine Bx ?_
 refine Bm ?_
 refine Bl ?_ ?_ ?_ ?_
 rfl
 refine ai ih.i_is_kind hr (by rfl) T.m_is_kind T.f_is_kind.kp T.b_is_kind .nil Ai aj (Ag rfl) ?_
 refine Aa ?_ ?_
 refine ar ?_ ?_ ?_ ?_ ?_ ?_
 rfl
 rfl
 exact hu
 exact sv Ie
 exact ae
 intro _ _; rfl
 exact Ad
 exact Dh
 intro _; rfl
 refine Ab ?_ ?_
 refine aq ?_
 exact cn
 exact Ae
 exact Ae
 refine Ab ?_ ?_
 refine aq ?_
 refine Dz ?_ ?_
 refine Pc (c1 := .le) (c2 := .le) ?_ ?_ ?_ ?_ ?_ ?_
 rfl
 rfl
 exact hu
 exact ae
 refine cx ?_ ?_ T.z_len ?_
 rfl
 rfl
 refine Aa ?_ ?_
 refine ar ?_ ?_ ?_ ?_ ?_ ?_
 rfl
 rfl
 exact hu
 exact sv Ie
 exact ae
 intro _ _; rfl
 exact Ad
 exact Fv (by rfl) T.gc_MOST_KINDS.choose_spec.1 T.gc_MOST_KINDS.choose_spec.2 (fun _ _ => by simp [DD.G.Rep, DD.Rep])
 refine Fe ?_
 refine Hw ?_ ?_ ?_ T.z_all ?_
 rfl
 rfl
 rfl
 refine Aa ?_ ?_
 refine gy (cl := []) (N := ["part"]) (nl := 1) (fv := []) (tgs := [0]) (one := true) (k := 1) ?_ ?_ ?_ ?_ ?_ ?_ ?_ ?_ ?_ ?_ ?_ ?_ ?_ ?_
 rfl
 rfl
 rfl
 decide
 decide
 rfl
 refine Di ?_ ?_
 exact trivial
 rfl
 rfl
 refine dj ?_
 exact trivial
 decide
 refine Ym ?_ ?_
 rfl
 refine ar ?_ ?_ ?_ ?_ ?_ ?_
 rfl
 rfl
 exact hu
 exact sv Ie
 exact ae
 intro _ _; rfl
 intro L s0 H0 fp pn
 refine Cb ?_ ?_ ?_ ?_
 show List.Nodup (["part"] : List Str); decide
 rfl
 exact Or.inl rfl
 refine Or.inr ?_
 exact rfl
 intro L s0 H0 fp pn
 exact dh
 intro L s0 H0 fp pn
 refine ai ih.i_is_kind hr (by rfl) T.m_is_kind T.f_is_kind.kp T.b_is_kind .nil Ai Ic (Ag rfl) ?_
 refine Aa ?_ ?_
 refine Cf 0 ?_
 exact pv 0
 exact Ad
 exact Ad
 exact Ae
theorem afr : Fk Pr w K mg base fd cls FF (n + 1) 14 ["wholes"] 1 := by
 refine aw (m := 2 * n + 1) (body' := qv) T.f_check_wholes Hg rfl fun cdv A outer s H E hrm => ?_
 have hr := hrm.mono (show 2 * n ≤ 2 * n + 1 by omega)
 have hu := hr.units
 subst hw
 refine Ab ?_ ?_
 refine ba ?_ ?_ ?_
 refine PW.pt ?_
 refine bp ?_ ?_
 refine Bm ?_
 refine Bl ?_ ?_ ?_ ?_
 rfl
 refine cg ?_ ?_ ?_ ?_ T.z_isinstance ?_ T.z_list ?_ ?_
 rfl
 decide
 exact fun n => Ci (n := n) (x := "list") (by decide)
 rfl
 rfl
 rfl
 exact sv mh
 exact di
 intro _; rfl
 refine Bx ?_
 refine Bm ?_
 refine Bl ?_ ?_ ?_ ?_
 rfl
 refine Hw ?_ ?_ ?_ T.z_all ?_
 rfl
 rfl
 rfl
 refine Aa ?_ ?_
 refine gy (cl := []) (N := ["row"]) (nl := 1) (fv := []) (tgs := [0]) (one := true) (k := 0) ?_ ?_ ?_ ?_ ?_ ?_ ?_ ?_ ?_ ?_ ?_ ?_ ?_ ?_
 rfl
 rfl
 rfl
 decide
 decide
 rfl
 refine Di ?_ ?_
 exact trivial
 rfl
 rfl
 refine dj ?_
 exact trivial
 decide
 refine Eb ?_ ?_
 rfl
 exact sv mh
 intro L s0 H0 fp pn
 refine Cb ?_ ?_ ?_ ?_
 show List.Nodup (["row"] : List Str); decide
 rfl
 exact Or.inl rfl
 refine Or.inr ?_
 exact rfl
 intro L s0 H0 fp pn
 exact dh
 intro L s0 H0 fp pn
 refine ai ih.i_is_bounded hr (by rfl) T.m_is_bounded T.f_is_bounded.kp T.b_is_bounded .nil Ai Ic (Ag rfl) ?_
 refine Aa ?_ ?_
 refine Cf 0 ?_
 exact pv 0
 exact Ad
 exact Ad
 exact Pw
 intro _; rfl
 refine Ab ?_ ?_
 exact Bz
 exact Ae
 exact Ae
 refine Ab ?_ ?_
 refine bf (i := 1) ?_ ?_ ?_ ?_
 exact Hg.nd
 rfl
 exact Or.inl Mh
 exact ae
 refine Ab ?_ ?_
 refine Le (is := [2, 3, 4]) ?_ ?_ ?_ ?_ ?_ ?_
 rfl
 exact PassesOwn.leaving
 rfl
 exact sv mh
 refine gp ?_ ?_
 rfl
 refine Cj ?_ ?_
 refine cp (i := 2) ?_ ?_ ?_
 exact Hg.nd
 rfl
 exact Or.inl adj
 refine Cj ?_ ?_
 refine cp (i := 3) ?_ ?_ ?_
 exact Hg.nd
 rfl
 exact Or.inl Rc
 refine Cj ?_ ?_
 refine cp (i := 4) ?_ ?_ ?_
 exact Hg.nd
 rfl
 exact Or.inl rf
 exact Gn
 refine Ab ?_ ?_
 refine Yf (i := 1) ?_ ?_ ?_ ?_
 exact Hg.nd
 rfl
 exact Or.inl Mh
 refine cw ?_ ?_
 refine Cw ?_ ?_
 exact sv rf
 exact sv Rc
 exact ae
 exact Ae
 refine Ab ?_ ?_
 refine ba ?_ ?_ ?_
 refine Ky ?_ ?_
 exact sv Mh
 exact Fv (by rfl) T.gc_MOST_VALUES.choose_spec.1 T.gc_MOST_VALUES.choose_spec.2 (fun _ _ => by simp [DD.G.Rep, DD.Rep])
 refine Ab ?_ ?_
 exact Bz
 exact Ae
 exact Ae
 exact Ae
theorem afs : Fk Pr w K mg base fd cls FF (n + 1) 15 ["functions"] 1 := by
 refine aw (m := 2 * n + 1) (body' := qw) T.f_check_functions adk rfl fun cdv A outer s H E hrm => ?_
 have hr := hrm.mono (show 2 * n ≤ 2 * n + 1 by omega)
 have hu := hr.units
 subst hw
 refine Ab ?_ ?_
 refine ba ?_ ?_ ?_
 refine PW.pt ?_
 refine bp ?_ ?_
 refine Bm ?_
 refine Bl ?_ ?_ ?_ ?_
 rfl
 refine cg ?_ ?_ ?_ ?_ T.z_isinstance ?_ T.z_list ?_ ?_
 rfl
 decide
 exact fun n => Ci (n := n) (x := "list") (by decide)
 rfl
 rfl
 rfl
 exact sv Rf
 exact di
 intro _; rfl
 refine Bx ?_
 refine Bm ?_
 refine Bl ?_ ?_ ?_ ?_
 rfl
 refine Hw ?_ ?_ ?_ T.z_all ?_
 rfl
 rfl
 rfl
 refine Aa ?_ ?_
 refine gy (cl := []) (N := ["row"]) (nl := 1) (fv := []) (tgs := [0]) (one := true) (k := 0) ?_ ?_ ?_ ?_ ?_ ?_ ?_ ?_ ?_ ?_ ?_ ?_ ?_ ?_
 rfl
 rfl
 rfl
 decide
 decide
 rfl
 refine Di ?_ ?_
 exact trivial
 rfl
 rfl
 refine dj ?_
 exact trivial
 decide
 refine Eb ?_ ?_
 rfl
 exact sv Rf
 intro L s0 H0 fp pn
 refine Cb ?_ ?_ ?_ ?_
 show List.Nodup (["row"] : List Str); decide
 rfl
 exact Or.inl rfl
 refine Or.inr ?_
 exact rfl
 intro L s0 H0 fp pn
 exact dh
 intro L s0 H0 fp pn
 refine ai ih.i_is_function hr (by rfl) T.m_is_function T.f_is_function.kp T.b_is_function .nil Ai Ic (Ag rfl) ?_
 refine Aa ?_ ?_
 refine Cf 0 ?_
 exact pv 0
 exact Ad
 exact Ad
 exact Pw
 intro _; rfl
 refine Ab ?_ ?_
 exact Bz
 exact Ae
 exact Ae
 exact Ae
theorem aft : Fk Pr w K mg base fd cls FF (n + 1) 16 ["names"] 1 := by
 refine aw (m := 2 * n + 1) (body' := Qw) T.f_check_names adl rfl fun cdv A outer s H E hrm => ?_
 have hr := hrm.mono (show 2 * n ≤ 2 * n + 1 by omega)
 have hu := hr.units
 subst hw
 refine Ab ?_ ?_
 refine ba ?_ ?_ ?_
 refine Bm ?_
 refine Bl ?_ ?_ ?_ ?_
 rfl
 refine ai ih.i_is_list_of_names hr (by rfl) T.m_is_list_of_names T.f_is_list_of_names.kp T.b_is_list_of_names .nil Ai aj (Ag rfl) ?_
 refine Aa ?_ ?_
 exact sv adm
 exact Ad
 exact Dh
 intro _; rfl
 refine Ab ?_ ?_
 exact Bz
 exact Ae
 exact Ae
 exact Ae
theorem afu : Fk Pr w K mg base fd cls FF (n + 1) 17 ["rows"] 1 := by
 refine aw (m := 2 * n + 1) (body' := qx) T.f_first_parts adn rfl fun cdv A outer s H E hrm => ?_
 have hr := hrm.mono (show 2 * n ≤ 2 * n + 1 by omega)
 have hu := hr.units
 subst hw
 refine Ab ?_ ?_
 refine aq ?_
 refine gy (cl := []) (N := ["row"]) (nl := 1) (fv := []) (tgs := [0]) (one := true) (k := 0) ?_ ?_ ?_ ?_ ?_ ?_ ?_ ?_ ?_ ?_ ?_ ?_ ?_ ?_
 rfl
 rfl
 rfl
 decide
 decide
 rfl
 refine Di ?_ ?_
 exact trivial
 rfl
 rfl
 refine dj ?_
 exact trivial
 decide
 refine Eb ?_ ?_
 rfl
 exact sv ado
 intro L s0 H0 fp pn
 refine Cb ?_ ?_ ?_ ?_
 show List.Nodup (["row"] : List Str); decide
 rfl
 exact Or.inl rfl
 refine Or.inr ?_
 exact rfl
 intro L s0 H0 fp pn
 exact dh
 intro L s0 H0 fp pn
 refine ar ?_ ?_ ?_ ?_ ?_ ?_
 rfl
 rfl
 exact hu
 refine Cf 0 ?_
 exact pv 0
 exact ae
 intro _ _; rfl
 exact Ae
theorem afv : Fk Pr w K mg base fd cls FF (n + 1) 18 ["names"] 1 := by
 refine aw (m := 2 * n + 1) (body' := Qx) T.f_check_unlike adp rfl fun cdv A outer s H E hrm => ?_
 have hr := hrm.mono (show 2 * n ≤ 2 * n + 1 by omega)
 have hu := hr.units
 subst hw
 refine Ab ?_ ?_
 refine ba ?_ ?_ ?_
 refine cb ?_ ?_ ?_ ?_
 rfl
 exact hu
 refine Zc ?_ ?_ ?_ T.z_len ?_ T.z_set ?_
 rfl
 rfl
 rfl
 rfl
 exact sv rg
 refine cx ?_ ?_ T.z_len ?_
 rfl
 rfl
 refine Aa ?_ ?_
 exact sv rg
 exact Ad
 refine Ab ?_ ?_
 exact Bz
 exact Ae
 exact Ae
 exact Ae
theorem afw : Fk Pr w K mg base fd cls FF (n + 1) 19 ["self", "numbers", "wholes", "things", "functions", "arrays"] 6 := by
 refine aw (m := 2 * n + 1) (body' := qy) T.f_Names_9__init__ Rg rfl fun cdv A outer s H E hrm => ?_
 have hr := hrm.mono (show 2 * n ≤ 2 * n + 1 by omega)
 have hu := hr.units
 subst hw
 refine Ab ?_ ?_
 refine Xy (is := [6]) ?_ ?_ ?_ ?_ ?_ ?_
 rfl
 exact PassesOwn.leaving
 rfl
 refine Ax ?_
 refine Aa ?_ ?_
 exact sv ju
 refine Aa ?_ ?_
 exact sv Ju
 refine Aa ?_ ?_
 exact sv Jv
 exact Ad
 refine Cb ?_ ?_ ?_
 exact Rg.nd
 rfl
 exact Or.inl rh
 refine Ab ?_ ?_
 refine Co ?_
 refine ai ih.i_check_names hr (by rfl) T.m_check_names T.f_check_names.kp T.b_check_names .nil Ai aj (Ag rfl) ?_
 refine Aa ?_ ?_
 exact sv rh
 exact Ad
 exact Ae
 refine Ab ?_ ?_
 refine Co ?_
 refine ai ih.i_check_wholes hr (by rfl) T.m_check_wholes T.f_check_wholes.kp T.b_check_wholes .nil Ai aj (Ag rfl) ?_
 refine Aa ?_ ?_
 exact sv ig
 exact Ad
 refine Ab ?_ ?_
 refine Co ?_
 refine ai ih.i_check_functions hr (by rfl) T.m_check_functions T.f_check_functions.kp T.b_check_functions .nil Ai aj (Ag rfl) ?_
 refine Aa ?_ ?_
 exact sv jv
 exact Ad
 refine Ab ?_ ?_
 refine Co ?_
 refine ai ih.i_check_unlike hr (by rfl) T.m_check_unlike T.f_check_unlike.kp T.b_check_unlike .nil Ai aj (Ag rfl) ?_
 refine Aa ?_ ?_
 refine cw ?_ ?_
 refine cw ?_ ?_
 refine cw ?_ ?_
 refine cw ?_ ?_
 exact sv ju
 refine ai ih.i_first_parts hr (by rfl) T.m_first_parts T.f_first_parts.kp T.b_first_parts .nil Ai aj (Ag rfl) ?_
 refine Aa ?_ ?_
 exact sv ig
 exact Ad
 exact sv Ju
 refine ai ih.i_first_parts hr (by rfl) T.m_first_parts T.f_first_parts.kp T.b_first_parts .nil Ai aj (Ag rfl) ?_
 refine Aa ?_ ?_
 exact sv jv
 exact Ad
 exact sv Jv
 exact Ad
 refine Ab ?_ ?_
 refine ff T.cl_Names T.na_Names_numbers ?_ ?_
 exact sv du
 refine Hv ?_ ?_ T.z_list ?_
 rfl
 rfl
 refine Aa ?_ ?_
 exact sv ju
 exact Ad
 refine Ab ?_ ?_
 refine ff T.cl_Names T.na_Names_wholes ?_ ?_
 exact sv du
 refine Hv ?_ ?_ T.z_list ?_
 rfl
 rfl
 refine Aa ?_ ?_
 exact sv ig
 exact Ad
 refine Ab ?_ ?_
 refine ff T.cl_Names T.na_Names_things ?_ ?_
 exact sv du
 refine Hv ?_ ?_ T.z_list ?_
 rfl
 rfl
 refine Aa ?_ ?_
 exact sv Ju
 exact Ad
 refine Ab ?_ ?_
 refine ff T.cl_Names T.na_Names_functions ?_ ?_
 exact sv du
 refine Hv ?_ ?_ T.z_list ?_
 rfl
 rfl
 refine Aa ?_ ?_
 exact sv jv
 exact Ad
 refine Ab ?_ ?_
 refine ff T.cl_Names T.na_Names_arrays ?_ ?_
 exact sv du
 refine Hv ?_ ?_ T.z_list ?_
 rfl
 rfl
 refine Aa ?_ ?_
 exact sv Jv
 exact Ad
 refine Ab ?_ ?_
 refine ff T.cl_Names T.na_Names_limits ?_ ?_
 exact sv du
 refine Hx (cl := []) (N := ["name", "low", "high"]) (nl := 3) (fv := []) (tgs := [0, 1, 2]) (one := false) (k := 0) ?_ ?_ ?_ ?_ ?_ ?_ ?_ ?_ ?_ ?_ ?_ ?_ ?_ ?_ ?_
 rfl
 rfl
 rfl
 decide
 decide
 rfl
 refine Di ?_ ?_
 exact trivial
 rfl
 rfl
 refine dj ?_
 exact trivial
 decide
 refine Eb ?_ ?_
 rfl
 exact sv ig
 intro L s0 H0 fp pn
 refine gp ?_ ?_
 rfl
 refine Cj ?_ ?_
 refine cp (i := 0) ?_ ?_ ?_ ?_
 show List.Nodup (["name", "low", "high"] : List Str); decide
 rfl
 exact Or.inl rfl
 refine Or.inr ?_
 exact rfl
 refine Cj ?_ ?_
 refine cp (i := 1) ?_ ?_ ?_ ?_
 show List.Nodup (["name", "low", "high"] : List Str); decide
 rfl
 exact Or.inl rfl
 refine Or.inr ?_
 exact rfl
 refine Cj ?_ ?_
 refine cp (i := 2) ?_ ?_ ?_ ?_
 show List.Nodup (["name", "low", "high"] : List Str); decide
 rfl
 exact Or.inl rfl
 refine Or.inr ?_
 exact rfl
 exact Gn
 intro L s0 H0 fp pn
 exact dh
 intro L s0 H0 fp pn
 refine Cf 0 ?_
 exact pv 0
 intro L s0 H0 fp pn
 refine Ax ?_
 refine Aa ?_ ?_
 refine Cf 1 ?_
 exact pv 1
 refine Aa ?_ ?_
 refine Cf 2 ?_
 exact pv 2
 exact Ad
 refine Ab ?_ ?_
 refine ff T.cl_Names T.na_Names_deeds ?_ ?_
 exact sv du
 refine Hx (cl := []) (N := ["name", "kinds", "kind"]) (nl := 3) (fv := []) (tgs := [0, 1, 2]) (one := false) (k := 0) ?_ ?_ ?_ ?_ ?_ ?_ ?_ ?_ ?_ ?_ ?_ ?_ ?_ ?_ ?_
 rfl
 rfl
 rfl
 decide
 decide
 rfl
 refine Di ?_ ?_
 exact trivial
 rfl
 rfl
 refine dj ?_
 exact trivial
 decide
 refine Eb ?_ ?_
 rfl
 exact sv jv
 intro L s0 H0 fp pn
 refine gp ?_ ?_
 rfl
 refine Cj ?_ ?_
 refine cp (i := 0) ?_ ?_ ?_ ?_
 show List.Nodup (["name", "kinds", "kind"] : List Str); decide
 rfl
 exact Or.inl rfl
 refine Or.inr ?_
 exact rfl
 refine Cj ?_ ?_
 refine cp (i := 1) ?_ ?_ ?_ ?_
 show List.Nodup (["name", "kinds", "kind"] : List Str); decide
 rfl
 exact Or.inl rfl
 refine Or.inr ?_
 exact rfl
 refine Cj ?_ ?_
 refine cp (i := 2) ?_ ?_ ?_ ?_
 show List.Nodup (["name", "kinds", "kind"] : List Str); decide
 rfl
 exact Or.inl rfl
 refine Or.inr ?_
 exact rfl
 exact Gn
 intro L s0 H0 fp pn
 exact dh
 intro L s0 H0 fp pn
 refine Cf 0 ?_
 exact pv 0
 intro L s0 H0 fp pn
 refine Ax ?_
 refine Aa ?_ ?_
 refine Cf 1 ?_
 exact pv 1
 refine Aa ?_ ?_
 refine Cf 2 ?_
 exact pv 2
 exact Ad
 refine Ab ?_ ?_
 refine ff T.cl_Names T.na_Names_unknowns ?_ ?_
 exact sv du
 refine Hx (cl := []) (N := ["name"]) (nl := 1) (fv := []) (tgs := [0]) (one := true) (k := 0) ?_ ?_ ?_ ?_ ?_ ?_ ?_ ?_ ?_ ?_ ?_ ?_ ?_ ?_ ?_
 rfl
 rfl
 rfl
 decide
 decide
 rfl
 refine Di ?_ ?_
 exact trivial
 rfl
 rfl
 refine dj ?_
 exact trivial
 decide
 refine Eb ?_ ?_
 rfl
 refine cw ?_ ?_
 exact sv ju
 refine ai ih.i_first_parts hr (by rfl) T.m_first_parts T.f_first_parts.kp T.b_first_parts .nil Ai aj (Ag rfl) ?_
 refine Aa ?_ ?_
 exact sv ig
 exact Ad
 intro L s0 H0 fp pn
 refine Cb ?_ ?_ ?_ ?_
 show List.Nodup (["name"] : List Str); decide
 rfl
 exact Or.inl rfl
 refine Or.inr ?_
 exact rfl
 intro L s0 H0 fp pn
 exact dh
 intro L s0 H0 fp pn
 refine Cf 0 ?_
 exact pv 0
 intro L s0 H0 fp pn
 exact Ah
 refine Ab ?_ ?_
 refine Co ?_
 refine pw ?_ ?_
 refine Jd T.cl_Names T.na_Names_unknowns ?_
 exact sv du
 refine Hx (cl := []) (N := ["name"]) (nl := 1) (fv := []) (tgs := [0]) (one := true) (k := 0) ?_ ?_ ?_ ?_ ?_ ?_ ?_ ?_ ?_ ?_ ?_ ?_ ?_ ?_ ?_
 rfl
 rfl
 rfl
 decide
 decide
 rfl
 refine Di ?_ ?_
 exact trivial
 rfl
 rfl
 refine dj ?_
 exact trivial
 decide
 refine Eb ?_ ?_
 rfl
 exact sv Ju
 intro L s0 H0 fp pn
 refine Cb ?_ ?_ ?_ ?_
 show List.Nodup (["name"] : List Str); decide
 rfl
 exact Or.inl rfl
 refine Or.inr ?_
 exact rfl
 intro L s0 H0 fp pn
 exact dh
 intro L s0 H0 fp pn
 refine Cf 0 ?_
 exact pv 0
 intro L s0 H0 fp pn
 exact Ah
 refine Ab ?_ ?_
 refine Co ?_
 refine pw ?_ ?_
 refine Jd T.cl_Names T.na_Names_unknowns ?_
 exact sv du
 refine Hx (cl := []) (N := ["name"]) (nl := 1) (fv := []) (tgs := [0]) (one := true) (k := 0) ?_ ?_ ?_ ?_ ?_ ?_ ?_ ?_ ?_ ?_ ?_ ?_ ?_ ?_ ?_
 rfl
 rfl
 rfl
 decide
 decide
 rfl
 refine Di ?_ ?_
 exact trivial
 rfl
 rfl
 refine dj ?_
 exact trivial
 decide
 refine Eb ?_ ?_
 rfl
 exact sv Jv
 intro L s0 H0 fp pn
 refine Cb ?_ ?_ ?_ ?_
 show List.Nodup (["name"] : List Str); decide
 rfl
 exact Or.inl rfl
 refine Or.inr ?_
 exact rfl
 intro L s0 H0 fp pn
 exact dh
 intro L s0 H0 fp pn
 refine Cf 0 ?_
 exact pv 0
 intro L s0 H0 fp pn
 exact Ah
 exact Ae
theorem afx : Fk Pr w K mg base fd cls FF (n + 1) 25 ["self", "name"] 2 := by
 refine aw (m := 2 * n + 1) (body' := Ji) T.f_Names_9kind adq rfl fun cdv A outer s H E hrm => ?_
 have hr := hrm.mono (show 2 * n ≤ 2 * n + 1 by omega)
 have hu := hr.units
 subst hw
 refine Ab ?_ ?_
 refine aq ?_
 refine ou ?_ ?_ ?_
 refine Bl ?_ ?_ ?_ ?_
 rfl
 refine cg ?_ ?_ ?_ ?_ T.z_isinstance ?_ T.z_str ?_ ?_
 rfl
 decide
 exact fun n => Ci (n := n) (x := "str") (by decide)
 rfl
 rfl
 rfl
 exact sv Rh
 exact di
 intro _; rfl
 refine Pt ?_ ?_ ?_ ?_
 exact hu
 refine Jd T.cl_Names T.na_Names_unknowns ?_
 exact sv ads
 exact sv Rh
 exact ⟨by rfl, by rfl, by rfl, by rfl⟩
 exact gw
 exact Ae
theorem afy : Fk Pr w K mg base fd cls FF (n + 1) 27 ["self", "name"] 2 := by
 refine aw (m := 2 * n + 1) (body' := jj) T.f_Names_9function adt rfl fun cdv A outer s H E hrm => ?_
 have hr := hrm.mono (show 2 * n ≤ 2 * n + 1 by omega)
 have hu := hr.units
 subst hw
 refine Ab ?_ ?_
 refine aq ?_
 refine ou ?_ ?_ ?_
 refine Bl ?_ ?_ ?_ ?_
 rfl
 refine cg ?_ ?_ ?_ ?_ T.z_isinstance ?_ T.z_str ?_ ?_
 rfl
 decide
 exact fun n => Ci (n := n) (x := "str") (by decide)
 rfl
 rfl
 rfl
 exact sv ri
 exact di
 intro _; rfl
 refine Pt ?_ ?_ ?_ ?_
 exact hu
 refine Jd T.cl_Names T.na_Names_deeds ?_
 exact sv adu
 exact sv ri
 exact ⟨by rfl, by rfl, by rfl, by rfl⟩
 exact gw
 exact Ae
theorem afz : Fk Pr w K mg base fd cls FF (n + 1) 28 ["thing"] 1 := by
 refine aw (m := 2 * n + 1) (body' := Qy) T.f_word_of adv rfl fun cdv A outer s H E hrm => ?_
 have hr := hrm.mono (show 2 * n ≤ 2 * n + 1 by omega)
 have hu := hr.units
 subst hw
 refine Ab ?_ ?_
 refine ba ?_ ?_ ?_
 refine PW.pt ?_
 refine bp ?_ ?_
 refine Bm ?_
 refine Bl ?_ ?_ ?_ ?_
 rfl
 refine cg ?_ ?_ ?_ ?_ T.z_isinstance ?_ T.z_tuple ?_ ?_
 rfl
 decide
 exact fun n => Ci (n := n) (x := "tuple") (by decide)
 rfl
 rfl
 rfl
 exact sv jw
 exact di
 intro _; rfl
 refine bp ?_ ?_
 refine Bm ?_
 refine Bl ?_ ?_ ?_ ?_
 rfl
 exact sv jw
 exact Ys
 intro _; rfl
 refine Bx ?_
 refine Bm ?_
 refine Bl ?_ ?_ ?_ ?_
 rfl
 refine cg ?_ ?_ ?_ ?_ T.z_isinstance ?_ T.z_str ?_ ?_
 rfl
 decide
 exact fun n => Ci (n := n) (x := "str") (by decide)
 rfl
 rfl
 rfl
 refine ar ?_ ?_ ?_ ?_ ?_ ?_
 rfl
 rfl
 exact hu
 exact sv jw
 exact ae
 intro _ _; rfl
 exact di
 intro _; rfl
 refine Ab ?_ ?_
 refine aq ?_
 exact gw
 exact Ae
 exact Ae
 refine Ab ?_ ?_
 refine aq ?_
 refine ar ?_ ?_ ?_ ?_ ?_ ?_
 rfl
 rfl
 exact hu
 exact sv jw
 exact ae
 intro _ _; rfl
 exact Ae
theorem aga : Fk Pr w K mg base fd cls FF (n + 1) 29 ["names", "term"] 2 := by
 refine aw (m := 2 * n + 1) (body' := Jj) T.f_kind_of adw rfl fun cdv A outer s H E hrm => ?_
 have hr := hrm.mono (show 2 * n ≤ 2 * n + 1 by omega)
 have hu := hr.units
 subst hw
 refine Ab ?_ ?_
 refine aq ?_
 refine ai ih.i_kind_within hr (by rfl) T.m_kind_within T.f_kind_within.kp T.b_kind_within .nil Ai aj (Ag rfl) ?_
 refine Aa ?_ ?_
 exact sv adx
 refine Aa ?_ ?_
 exact sv ady
 refine Aa ?_ ?_
 exact Fv (by rfl) T.gc_DEEPEST.choose_spec.1 T.gc_DEEPEST.choose_spec.2 (fun _ _ => by simp [DD.G.Rep, DD.Rep])
 exact Ad
 exact Ae
theorem agb : Fk Pr w K mg base fd cls FF (n + 1) 30 ["names", "term", "room"] 3 := by
 refine aw (m := 2 * n + 1) (body' := jk) T.f_kind_within mi rfl fun cdv A outer s H E hrm => ?_
 have hr := hrm.mono (show 2 * n ≤ 2 * n + 1 by omega)
 have hu := hr.units
 subst hw
 refine Ab ?_ ?_
 refine bf (i := 3) ?_ ?_ ?_ ?_
 exact mi.nd
 rfl
 exact Or.inl Jw
 refine ai ih.i_word_of hr (by rfl) T.m_word_of T.f_word_of.kp T.b_word_of .nil Ai aj (Ag rfl) ?_
 refine Aa ?_ ?_
 exact sv Mi
 exact Ad
 refine Ab ?_ ?_
 refine ba ?_ ?_ ?_
 refine PW.pt ?_
 refine bp ?_ ?_
 refine Fd ?_ ?_
 exact sv Ri
 exact ae
 refine bp ?_ ?_
 refine Qm ?_ ?_ T.tb_LENGTHS_terms ?_
 rfl
 rfl
 exact sv Jw
 refine Bx ?_
 refine cb ?_ ?_ ?_ ?_
 rfl
 exact hu
 refine cx ?_ ?_ T.z_len ?_
 rfl
 rfl
 refine Aa ?_ ?_
 exact sv Mi
 exact Ad
 refine qm ?_ T.tb_LENGTHS_terms ?_ ?_ ?_
 rfl
 rfl
 exact sv Jw
 intro _ _; rfl
 refine Ab ?_ ?_
 exact Bz
 exact Ae
 exact Ae
 refine Ab ?_ ?_
 refine bf (i := 4) ?_ ?_ ?_ ?_
 exact mi.nd
 rfl
 exact Or.inl rj
 refine abr ?_ T.tb_DEEDS ?_ ?_
 rfl
 exact sv Jw
 intro _ _; rfl
 refine Ab ?_ ?_
 refine aq ?_
 refine abw (k := 2 * n) (np := 3) ?_ ?_ ?_ ?_ ?_
 refine acu (fd := fd) ?_ ?_
 exact T
 exact ih
 exact hr
 exact aj
 exact sv rj
 refine Aa ?_ ?_
 exact sv adz
 refine Aa ?_ ?_
 exact sv Mi
 refine Aa ?_ ?_
 refine Cw ?_ ?_
 exact sv Ri
 exact ae
 exact Ad
 exact Ae
theorem agc : Fk Pr w K mg base fd cls FF (n + 1) 31 ["names", "terms", "kinds", "room"] 4 := by
 refine aw (m := 2 * n + 1) (body' := Jk) T.f_check_kinds mj rfl fun cdv A outer s H E hrm => ?_
 have hr := hrm.mono (show 2 * n ≤ 2 * n + 1 by omega)
 have hu := hr.units
 subst hw
 refine Ab ?_ ?_
 refine ba ?_ ?_ ?_
 refine PW.pt ?_
 refine bp ?_ ?_
 refine Bm ?_
 refine Bl ?_ ?_ ?_ ?_
 rfl
 refine cg ?_ ?_ ?_ ?_ T.z_isinstance ?_ T.z_tuple ?_ ?_
 rfl
 decide
 exact fun n => Ci (n := n) (x := "tuple") (by decide)
 rfl
 rfl
 rfl
 exact sv Mj
 exact di
 intro _; rfl
 refine Bx ?_
 refine cb ?_ ?_ ?_ ?_
 rfl
 exact hu
 refine cx ?_ ?_ T.z_len ?_
 rfl
 rfl
 refine Aa ?_ ?_
 exact sv Mj
 exact Ad
 refine cx ?_ ?_ T.z_len ?_
 rfl
 rfl
 refine Aa ?_ ?_
 exact sv Rj
 exact Ad
 refine Ab ?_ ?_
 exact Bz
 exact Ae
 exact Ae
 refine Ab ?_ ?_
 refine acg (t1 := [4]) (o1 := true) (t2 := [5]) (o2 := true) ?_ ?_ ?_ ?_ T.z_zip ?_ ?_ ?_ ?_
 rfl
 exact PassesOwn.leaving
 rfl
 rfl
 exact sv Mj
 exact sv Rj
 refine gp ?_ ?_
 rfl
 refine Cj ?_ ?_
 refine Cb ?_ ?_ ?_
 exact mj.nd
 rfl
 exact Or.inl Rk
 refine Cj ?_ ?_
 refine Cb ?_ ?_ ?_
 exact mj.nd
 rfl
 exact Or.inl Rl
 exact Gn
 refine Ab ?_ ?_
 refine ba ?_ ?_ ?_
 refine cb ?_ ?_ ?_ ?_
 rfl
 exact hu
 refine ai ih.i_kind_within hr (by rfl) T.m_kind_within T.f_kind_within.kp T.b_kind_within .nil Ai aj (Ag rfl) ?_
 refine Aa ?_ ?_
 exact sv aea
 refine Aa ?_ ?_
 exact sv Rk
 refine Aa ?_ ?_
 exact sv aeb
 exact Ad
 exact sv Rl
 refine Ab ?_ ?_
 exact Bz
 exact Ae
 exact Ae
 exact Ae
 exact Ae
theorem agd : Fk Pr w K mg base fd cls FF (n + 1) 32 ["names", "term", "room"] 3 := by
 refine aw (m := 2 * n + 1) (body' := jl) T.f_kind_of_number aec rfl fun cdv A outer s H E hrm => ?_
 have hr := hrm.mono (show 2 * n ≤ 2 * n + 1 by omega)
 have hu := hr.units
 subst hw
 refine Ab ?_ ?_
 refine ba ?_ ?_ ?_
 refine Bm ?_
 refine Bl ?_ ?_ ?_ ?_
 rfl
 refine ai ih.i_is_fraction hr (by rfl) T.m_is_fraction T.f_is_fraction.kp T.b_is_fraction .nil Ai aj (Ag rfl) ?_
 refine Aa ?_ ?_
 refine ar ?_ ?_ ?_ ?_ ?_ ?_
 rfl
 rfl
 exact hu
 exact sv aed
 exact ae
 intro _ _; rfl
 exact Ad
 exact Dh
 intro _; rfl
 refine Ab ?_ ?_
 exact Bz
 exact Ae
 exact Ae
 refine Ab ?_ ?_
 refine aq ?_
 exact Ah
 exact Ae
theorem age : Fk Pr w K mg base fd cls FF (n + 1) 33 ["names", "term", "room"] 3 := by
 refine aw (m := 2 * n + 1) (body' := Jl) T.f_kind_of_unknown Rm rfl fun cdv A outer s H E hrm => ?_
 have hr := hrm.mono (show 2 * n ≤ 2 * n + 1 by omega)
 have hu := hr.units
 subst hw
 refine Ab ?_ ?_
 refine bf (i := 3) ?_ ?_ ?_ ?_
 exact Rm.nd
 rfl
 exact Or.inl ml
 refine Pf (k := 2 * n) (np := 2) T.cl_Names T.me_Names_kind ?_ ?_ T.b_Names_9kind ?_ ?_ ?_ ?_
 exact ih.i_Names_9kind
 exact hr
 exact aj
 exact Ag rfl
 exact sv aee
 refine Aa ?_ ?_
 refine ar ?_ ?_ ?_ ?_ ?_ ?_
 rfl
 rfl
 exact hu
 exact sv aef
 exact ae
 intro _ _; rfl
 exact Ad
 refine Ab ?_ ?_
 refine ba ?_ ?_ ?_
 refine pb ?_ ?_ ?_ ?_ ?_
 rfl
 rfl
 exact hu
 exact sv ml
 exact gw
 refine Ab ?_ ?_
 exact Bz
 exact Ae
 exact Ae
 refine Ab ?_ ?_
 refine aq ?_
 exact sv ml
 exact Ae
theorem agf : Fk Pr w K mg base fd cls FF (n + 1) 34 ["names", "term", "room"] 3 := by
 refine aw (m := 2 * n + 1) (body' := jm) T.f_kind_of_weigh aeg rfl fun cdv A outer s H E hrm => ?_
 have hr := hrm.mono (show 2 * n ≤ 2 * n + 1 by omega)
 have hu := hr.units
 subst hw
 refine Ab ?_ ?_
 refine ba ?_ ?_ ?_
 refine Bm ?_
 refine Bl ?_ ?_ ?_ ?_
 rfl
 refine ai ih.i_is_fraction hr (by rfl) T.m_is_fraction T.f_is_fraction.kp T.b_is_fraction .nil Ai aj (Ag rfl) ?_
 refine Aa ?_ ?_
 refine ar ?_ ?_ ?_ ?_ ?_ ?_
 rfl
 rfl
 exact hu
 exact sv rn
 exact ae
 intro _ _; rfl
 exact Ad
 exact Dh
 intro _; rfl
 refine Ab ?_ ?_
 exact Bz
 exact Ae
 exact Ae
 refine Ab ?_ ?_
 refine Co ?_
 refine ai ih.i_check_kinds hr (by rfl) T.m_check_kinds T.f_check_kinds.kp T.b_check_kinds .nil Ai aj (Ag rfl) ?_
 refine Aa ?_ ?_
 exact sv aeh
 refine Aa ?_ ?_
 refine lg ?_ ?_ ?_
 rfl
 exact sv rn
 exact ae
 refine Aa ?_ ?_
 refine Ax ?_
 refine Aa ?_ ?_
 exact Ah
 exact Ad
 refine Aa ?_ ?_
 exact sv aei
 exact Ad
 refine Ab ?_ ?_
 refine aq ?_
 exact Ah
 exact Ae
theorem agg : Fk Pr w K mg base fd cls FF (n + 1) 35 ["names", "term", "room"] 3 := by
 refine aw (m := 2 * n + 1) (body' := Jm) T.f_kind_of_plus aej rfl fun cdv A outer s H E hrm => ?_
 have hr := hrm.mono (show 2 * n ≤ 2 * n + 1 by omega)
 have hu := hr.units
 subst hw
 refine Ab ?_ ?_
 refine ba ?_ ?_ ?_
 refine Bm ?_
 refine Bl ?_ ?_ ?_ ?_
 rfl
 refine cg ?_ ?_ ?_ ?_ T.z_isinstance ?_ T.z_tuple ?_ ?_
 rfl
 decide
 exact fun n => Ci (n := n) (x := "tuple") (by decide)
 rfl
 rfl
 rfl
 refine ar ?_ ?_ ?_ ?_ ?_ ?_
 rfl
 rfl
 exact hu
 exact sv Ml
 exact ae
 intro _ _; rfl
 exact di
 intro _; rfl
 refine Ab ?_ ?_
 exact Bz
 exact Ae
 exact Ae
 refine Ab ?_ ?_
 refine Co ?_
 refine ai ih.i_check_kinds hr (by rfl) T.m_check_kinds T.f_check_kinds.kp T.b_check_kinds .nil Ai aj (Ag rfl) ?_
 refine Aa ?_ ?_
 exact sv aek
 refine Aa ?_ ?_
 refine ar ?_ ?_ ?_ ?_ ?_ ?_
 rfl
 rfl
 exact hu
 exact sv Ml
 exact ae
 intro _ _; rfl
 refine Aa ?_ ?_
 refine Hr ?_ ?_ ?_
 rfl
 refine Ax ?_
 refine Aa ?_ ?_
 exact Ah
 exact Ad
 refine cx ?_ ?_ T.z_len ?_
 rfl
 rfl
 refine Aa ?_ ?_
 refine ar ?_ ?_ ?_ ?_ ?_ ?_
 rfl
 rfl
 exact hu
 exact sv Ml
 exact ae
 intro _ _; rfl
 exact Ad
 refine Aa ?_ ?_
 exact sv ael
 exact Ad
 refine Ab ?_ ?_
 refine aq ?_
 exact Ah
 exact Ae
theorem agh : Fk Pr w K mg base fd cls FF (n + 1) 36 ["names", "term", "room"] 3 := by
 refine aw (m := 2 * n + 1) (body' := jn) T.f_kind_of_call jx rfl fun cdv A outer s H E hrm => ?_
 have hr := hrm.mono (show 2 * n ≤ 2 * n + 1 by omega)
 have hu := hr.units
 subst hw
 refine Ab ?_ ?_
 refine bf (i := 3) ?_ ?_ ?_ ?_
 exact jx.nd
 rfl
 exact Or.inl Mm
 refine Pf (k := 2 * n) (np := 2) T.cl_Names T.me_Names_function ?_ ?_ T.b_Names_9function ?_ ?_ ?_ ?_
 exact ih.i_Names_9function
 exact hr
 exact aj
 exact Ag rfl
 exact sv Rn
 refine Aa ?_ ?_
 refine ar ?_ ?_ ?_ ?_ ?_ ?_
 rfl
 rfl
 exact hu
 exact sv ro
 exact ae
 intro _ _; rfl
 exact Ad
 refine Ab ?_ ?_
 refine ba ?_ ?_ ?_
 refine pb ?_ ?_ ?_ ?_ ?_
 rfl
 rfl
 exact hu
 exact sv Mm
 exact gw
 refine Ab ?_ ?_
 exact Bz
 exact Ae
 exact Ae
 refine Ab ?_ ?_
 refine ox (is := [4, 5]) ?_ ?_
 exact sv Mm
 refine gp ?_ ?_
 rfl
 refine Cj ?_ ?_
 refine cp (i := 4) ?_ ?_ ?_
 exact jx.nd
 rfl
 exact Or.inl Ro
 refine Cj ?_ ?_
 refine cp (i := 5) ?_ ?_ ?_
 exact jx.nd
 rfl
 exact Or.inl Rp
 exact Gn
 refine Ab ?_ ?_
 refine Co ?_
 refine ai ih.i_check_kinds hr (by rfl) T.m_check_kinds T.f_check_kinds.kp T.b_check_kinds .nil Ai aj (Ag rfl) ?_
 refine Aa ?_ ?_
 exact sv Rn
 refine Aa ?_ ?_
 refine ar ?_ ?_ ?_ ?_ ?_ ?_
 rfl
 rfl
 exact hu
 exact sv ro
 exact ae
 intro _ _; rfl
 refine Aa ?_ ?_
 exact sv Ro
 refine Aa ?_ ?_
 exact sv aem
 exact Ad
 refine Ab ?_ ?_
 refine aq ?_
 exact sv Rp
 exact Ae
theorem agi : Fk Pr w K mg base fd cls FF (n + 1) 37 ["names", "term", "room"] 3 := by
 refine aw (m := 2 * n + 1) (body' := Jn) T.f_kind_of_read aen rfl fun cdv A outer s H E hrm => ?_
 have hr := hrm.mono (show 2 * n ≤ 2 * n + 1 by omega)
 have hu := hr.units
 subst hw
 refine Ab ?_ ?_
 refine Co ?_
 refine ai ih.i_check_kinds hr (by rfl) T.m_check_kinds T.f_check_kinds.kp T.b_check_kinds .nil Ai aj (Ag rfl) ?_
 refine Aa ?_ ?_
 exact sv aeo
 refine Aa ?_ ?_
 refine lg ?_ ?_ ?_
 rfl
 exact sv aep
 exact ae
 refine Aa ?_ ?_
 refine Ax ?_
 refine Aa ?_ ?_
 exact Ah
 refine Aa ?_ ?_
 exact Ah
 exact Ad
 refine Aa ?_ ?_
 exact sv aeq
 exact Ad
 refine Ab ?_ ?_
 refine aq ?_
 exact Ah
 exact Ae
theorem agj : Fk Pr w K mg base fd cls FF (n + 1) 38 ["names", "term", "room"] 3 := by
 refine aw (m := 2 * n + 1) (body' := jo) T.f_kind_of_put aer rfl fun cdv A outer s H E hrm => ?_
 have hr := hrm.mono (show 2 * n ≤ 2 * n + 1 by omega)
 have hu := hr.units
 subst hw
 refine Ab ?_ ?_
 refine Co ?_
 refine ai ih.i_check_kinds hr (by rfl) T.m_check_kinds T.f_check_kinds.kp T.b_check_kinds .nil Ai aj (Ag rfl) ?_
 refine Aa ?_ ?_
 exact sv aes
 refine Aa ?_ ?_
 refine lg ?_ ?_ ?_
 rfl
 exact sv aet
 exact ae
 refine Aa ?_ ?_
 refine Ax ?_
 refine Aa ?_ ?_
 exact Ah
 refine Aa ?_ ?_
 exact Ah
 refine Aa ?_ ?_
 exact Ah
 exact Ad
 refine Aa ?_ ?_
 exact sv aeu
 exact Ad
 refine Ab ?_ ?_
 refine aq ?_
 exact Ah
 exact Ae
theorem agk : Fk Pr w K mg base fd cls FF (n + 1) 39 ["names", "statement"] 2 := by
 refine aw (m := 2 * n + 1) (body' := Jo) T.f_check_statement aev rfl fun cdv A outer s H E hrm => ?_
 have hr := hrm.mono (show 2 * n ≤ 2 * n + 1 by omega)
 have hu := hr.units
 subst hw
 refine Ab ?_ ?_
 refine ach ?_
 intro pn xe0 hp0
 refine Ab ?_ ?_
 refine Co ?_
 refine ai ih.i_check_within hr (by rfl) T.m_check_within T.f_check_within.kp T.b_check_within .nil Ai Ic (Ag rfl) ?_
 refine Aa ?_ ?_
 exact sv aew
 refine Aa ?_ ?_
 exact sv aex
 refine Aa ?_ ?_
 exact Fv (by rfl) T.gc_DEEPEST.choose_spec.1 T.gc_DEEPEST.choose_spec.2 (fun _ _ => by simp [DD.G.Rep, DD.Rep])
 exact Ad
 exact Ae
 exact Ae
theorem agl : Fk Pr w K mg base fd cls FF (n + 1) 40 ["names", "statement", "room"] 3 := by
 refine aw (m := 2 * n + 1) (body' := Jp) T.f_check_within rq rfl fun cdv A outer s H E hrm => ?_
 have hr := hrm.mono (show 2 * n ≤ 2 * n + 1 by omega)
 have hu := hr.units
 subst hw
 refine Ab ?_ ?_
 refine bf (i := 3) ?_ ?_ ?_ ?_
 exact rq.nd
 rfl
 exact Or.inl Ig
 refine ai ih.i_word_of hr (by rfl) T.m_word_of T.f_word_of.kp T.b_word_of .nil Ai aj (Ag rfl) ?_
 refine Aa ?_ ?_
 exact sv mn
 exact Ad
 refine Ab ?_ ?_
 refine ba ?_ ?_ ?_
 refine PW.pt ?_
 refine bp ?_ ?_
 refine Fd ?_ ?_
 exact sv Rq
 exact ae
 refine bp ?_ ?_
 refine Qm ?_ ?_ T.tb_LENGTHS_statements ?_
 rfl
 rfl
 exact sv Ig
 refine Bx ?_
 refine cb ?_ ?_ ?_ ?_
 rfl
 exact hu
 refine cx ?_ ?_ T.z_len ?_
 rfl
 rfl
 refine Aa ?_ ?_
 exact sv mn
 exact Ad
 refine qm ?_ T.tb_LENGTHS_statements ?_ ?_ ?_
 rfl
 rfl
 exact sv Ig
 intro _ _; rfl
 refine Ab ?_ ?_
 exact Bz
 exact Ae
 exact Ae
 refine Ab ?_ ?_
 refine ba ?_ ?_ ?_
 refine fu ?_ ?_ ?_ ?_
 rfl
 exact hu
 exact sv Ig
 exact Ah
 refine Ab ?_ ?_
 exact Bz
 exact Ae
 refine Ab ?_ ?_
 refine ba ?_ ?_ ?_
 refine Xs ?_ ?_ ?_ ?_ ?_
 rfl
 rfl
 exact hu
 exact sv Ig
 refine Ax ?_
 refine Aa ?_ ?_
 exact Ah
 refine Aa ?_ ?_
 exact Ah
 exact Ad
 refine Ab ?_ ?_
 exact Bz
 exact Ae
 refine Ab ?_ ?_
 refine Co ?_
 refine ai ih.i_check_atom hr (by rfl) T.m_check_atom T.f_check_atom.kp T.b_check_atom .nil Ai aj (Ag rfl) ?_
 refine Aa ?_ ?_
 exact sv aey
 refine Aa ?_ ?_
 exact sv mn
 refine Aa ?_ ?_
 refine Cw ?_ ?_
 exact sv Rq
 exact ae
 exact Ad
 exact Ae
 exact Ae
 exact Ae
theorem agm : Fk Pr w K mg base fd cls FF (n + 1) 42 ["names", "atom", "room"] 3 := by
 refine aw (m := 2 * n + 1) (body' := jq) T.f_check_atom Rr rfl fun cdv A outer s H E hrm => ?_
 have hr := hrm.mono (show 2 * n ≤ 2 * n + 1 by omega)
 have hu := hr.units
 subst hw
 refine Ab ?_ ?_
 refine bf (i := 3) ?_ ?_ ?_ ?_
 exact Rr.nd
 rfl
 exact Or.inl Jx
 refine ai ih.i_kind_within hr (by rfl) T.m_kind_within T.f_kind_within.kp T.b_kind_within .nil Ai aj (Ag rfl) ?_
 refine Aa ?_ ?_
 exact sv Rt
 refine Aa ?_ ?_
 refine ar ?_ ?_ ?_ ?_ ?_ ?_
 rfl
 rfl
 exact hu
 exact sv Mn
 exact ae
 intro _ _; rfl
 refine Aa ?_ ?_
 exact sv Ru
 exact Ad
 refine Ab ?_ ?_
 refine ba ?_ ?_ ?_
 refine cb ?_ ?_ ?_ ?_
 rfl
 exact hu
 refine ai ih.i_kind_within hr (by rfl) T.m_kind_within T.f_kind_within.kp T.b_kind_within .nil Ai aj (Ag rfl) ?_
 refine Aa ?_ ?_
 exact sv Rt
 refine Aa ?_ ?_
 refine ar ?_ ?_ ?_ ?_ ?_ ?_
 rfl
 rfl
 exact hu
 exact sv Mn
 exact ae
 intro _ _; rfl
 refine Aa ?_ ?_
 exact sv Ru
 exact Ad
 exact sv Jx
 refine Ab ?_ ?_
 exact Bz
 exact Ae
 exact Ae
 refine Ab ?_ ?_
 refine ba ?_ ?_ ?_
 refine PW.pt ?_
 refine La ?_ ?_
 refine cb ?_ ?_ ?_ ?_
 rfl
 exact hu
 exact sv Jx
 exact Ah
 refine la ?_
 refine cb ?_ ?_ ?_ ?_
 rfl
 exact hu
 refine Ax ?_
 refine Aa ?_ ?_
 exact sv Jx
 refine Aa ?_ ?_
 refine ar ?_ ?_ ?_ ?_ ?_ ?_
 rfl
 rfl
 exact hu
 exact sv Mn
 exact ae
 intro _ _; rfl
 exact Ad
 refine Ax ?_
 refine Aa ?_ ?_
 exact Ah
 refine Aa ?_ ?_
 exact Ah
 exact Ad
 refine Ab ?_ ?_
 exact Bz
 exact Ae
 exact Ae
 exact Ae
theorem agn : Fk Pr w K mg base fd cls FF (n + 1) 44 ["_law_cell", "_law_many"] 2 := by
 refine aw (m := 2 * n + 1) (body' := Hc) T.f__law_stream Gi rfl fun cdv A outer s H E hrm => ?_
 have hr := hrm.mono (show 2 * n ≤ 2 * n + 1 by omega)
 have hu := hr.units
 subst hw
 refine Ab ?_ ?_
 refine bf (i := 2) ?_ ?_ ?_ ?_
 exact Gi.nd
 rfl
 exact Or.inl gj
 refine Cv ?_
 exact Ad
 refine Ab ?_ ?_
 refine bf (i := 3) ?_ ?_ ?_ ?_
 exact Gi.nd
 rfl
 exact Or.inl Ih
 refine Cn ?_ ?_
 exact sv Rv
 exact ae
 refine Ab ?_ ?_
 refine Lb ?_ ?_ ?_
 exact PassesOwn.leaving
 refine PW.pt ?_
 refine La ?_ ?_
 refine Fd ?_ ?_
 refine cx ?_ ?_ T.z_len ?_
 rfl
 rfl
 refine Aa ?_ ?_
 exact sv gj
 exact Ad
 exact sv Rw
 refine la ?_
 refine Ky ?_ ?_
 exact sv Ih
 exact ae
 refine Ab ?_ ?_
 refine Co ?_
 refine oz ?_ ?_ ?_
 rfl
 exact sv gj
 refine bx ?_ ?_
 exact sv Ih
 refine og ?_ ?_
 exact ae
 exact ae
 refine Ab ?_ ?_
 refine bf (i := 3) ?_ ?_ ?_ ?_
 exact Gi.nd
 rfl
 exact Or.inl Ih
 refine Cn ?_ ?_
 exact sv Ih
 refine og ?_ ?_
 exact ae
 exact ae
 exact Ae
 refine Ab ?_ ?_
 refine bf (i := 4) ?_ ?_ ?_ ?_
 exact Gi.nd
 rfl
 exact Or.inl Hh
 refine bx ?_ ?_
 refine Hr ?_ ?_ ?_
 rfl
 refine cw ?_ ?_
 exact sv Rv
 exact ae
 exact ae
 exact ae
 refine Ab ?_ ?_
 refine Lb ?_ ?_ ?_
 exact PassesOwn.leaving
 refine Fd ?_ ?_
 refine cx ?_ ?_ T.z_len ?_
 rfl
 rfl
 refine Aa ?_ ?_
 exact sv gj
 exact Ad
 exact sv Rw
 refine Ab ?_ ?_
 refine bf (i := 5) ?_ ?_ ?_ ?_
 exact Gi.nd
 rfl
 exact Or.inl Rx
 refine cw ?_ ?_
 refine cw ?_ ?_
 exact sv Hh
 refine Hr ?_ ?_ ?_
 rfl
 exact ae
 refine cx ?_ ?_ T.z_len ?_
 rfl
 rfl
 refine Aa ?_ ?_
 exact sv gj
 exact Ad
 exact ae
 refine Ab ?_ ?_
 refine bf (i := 4) ?_ ?_ ?_ ?_
 exact Gi.nd
 rfl
 exact Or.inl Hh
 refine bx ?_ ?_
 refine Hr ?_ ?_ ?_
 rfl
 exact sv Rx
 refine cw ?_ ?_
 refine Cn ?_ ?_
 exact sv Hh
 exact ae
 exact ae
 exact ae
 refine Ab ?_ ?_
 refine Co ?_
 refine oz ?_ ?_ ?_
 rfl
 exact sv gj
 refine bx ?_ ?_
 refine Hr ?_ ?_ ?_
 rfl
 exact sv Hh
 refine cw ?_ ?_
 refine Cn ?_ ?_
 exact sv Hh
 exact ae
 exact ae
 exact ae
 exact Ae
 refine Ab ?_ ?_
 refine aq ?_
 refine Yw ?_ ?_ ?_
 rfl
 exact sv gj
 refine Xh ?_
 exact ae
 exact Ae
theorem ago : Fk Pr w K mg base fd cls FF (n + 1) 45 ["_law_xs"] 1 := by
 refine aw (m := 2 * n + 1) (body' := Jq) T.f__law_draw aez rfl fun cdv A outer s H E hrm => ?_
 have hr := hrm.mono (show 2 * n ≤ 2 * n + 1 by omega)
 have hu := hr.units
 subst hw
 refine Ab ?_ ?_
 refine ba ?_ ?_ ?_
 refine fu ?_ ?_ ?_ ?_
 rfl
 exact hu
 exact sv Ry
 refine Cv ?_
 exact Ad
 refine Ab ?_ ?_
 refine aq ?_
 exact ae
 exact Ae
 exact Ae
 refine Ab ?_ ?_
 refine aq ?_
 refine yk ?_ ?_
 rfl
 exact sv Ry
 exact Ae
theorem agp : Fk Pr w K mg base fd cls FF (n + 1) 46 ["_law_number"] 1 := by
 refine aw (m := 2 * n + 1) (body' := jr) T.f__law_fraction Mo rfl fun cdv A outer s H E hrm => ?_
 have hr := hrm.mono (show 2 * n ≤ 2 * n + 1 by omega)
 have hu := hr.units
 subst hw
 refine Ab ?_ ?_
 refine bf (i := 1) ?_ ?_ ?_ ?_
 exact Mo.nd
 rfl
 exact Or.inl jy
 refine Cw ?_ ?_
 refine bx ?_ ?_
 exact sv rz
 exact ae
 exact ae
 refine Ab ?_ ?_
 refine bf (i := 2) ?_ ?_ ?_ ?_
 exact Mo.nd
 rfl
 exact Or.inl Ii
 refine ar ?_ ?_ ?_ ?_ ?_ ?_
 rfl
 rfl
 exact hu
 refine Cv ?_
 refine Aa ?_ ?_
 exact ae
 refine Aa ?_ ?_
 exact ae
 refine Aa ?_ ?_
 exact ae
 refine Aa ?_ ?_
 exact ae
 exact Ad
 refine bx ?_ ?_
 refine Cn ?_ ?_
 exact sv rz
 exact ae
 exact ae
 intro _ _; rfl
 refine Ab ?_ ?_
 refine ba ?_ ?_ ?_
 refine PW.pt ?_
 refine La ?_ ?_
 refine Ky ?_ ?_
 exact sv Ii
 exact ae
 refine la ?_
 refine fu ?_ ?_ ?_ ?_
 rfl
 exact hu
 refine bx ?_ ?_
 exact sv jy
 exact sv Ii
 exact ae
 refine Ab ?_ ?_
 refine aq ?_
 refine Ax ?_
 refine Aa ?_ ?_
 refine Cn ?_ ?_
 exact sv jy
 exact sv Ii
 refine Aa ?_ ?_
 exact ae
 exact Ad
 exact Ae
 exact Ae
 refine Ab ?_ ?_
 refine aq ?_
 refine Ax ?_
 refine Aa ?_ ?_
 exact sv jy
 refine Aa ?_ ?_
 exact sv Ii
 exact Ad
 exact Ae
theorem agq : Fk Pr w K mg base fd cls FF (n + 1) 47 ["_law_xs", "_law_deep"] 2 := by
 refine aw (m := 2 * n + 1) (body' := Jr) T.f__law_term Ij rfl fun cdv A outer s H E hrm => ?_
 have hr := hrm.mono (show 2 * n ≤ 2 * n + 1 by omega)
 have hu := hr.units
 subst hw
 refine Ab ?_ ?_
 refine bf (i := 2) ?_ ?_ ?_ ?_
 exact Ij.nd
 rfl
 exact Or.inl Ik
 refine ai ih.i__law_draw hr (by rfl) T.m__law_draw T.f__law_draw.kp T.b__law_draw .nil Ai aj (Ag rfl) ?_
 refine Aa ?_ ?_
 exact sv Gj
 exact Ad
 refine Ab ?_ ?_
 refine bf (i := 3) ?_ ?_ ?_ ?_
 exact Ij.nd
 rfl
 exact Or.inl Hi
 refine bx ?_ ?_
 exact sv Ik
 exact ae
 refine Ab ?_ ?_
 refine ba ?_ ?_ ?_
 refine PW.pt ?_
 refine bp ?_ ?_
 refine Fd ?_ ?_
 exact sv gk
 exact ae
 refine Bx ?_
 refine Fd ?_ ?_
 exact sv Hi
 exact ae
 refine Ab ?_ ?_
 refine aq ?_
 refine Ax ?_
 refine Aa ?_ ?_
 exact Ah
 refine Aa ?_ ?_
 refine ar ?_ ?_ ?_ ?_ ?_ ?_
 rfl
 rfl
 exact hu
 refine Cv ?_
 refine Aa ?_ ?_
 exact Ah
 refine Aa ?_ ?_
 exact Ah
 refine Aa ?_ ?_
 exact Ah
 refine Aa ?_ ?_
 exact Ah
 exact Ad
 refine bx ?_ ?_
 refine Cn ?_ ?_
 exact sv Ik
 exact ae
 exact ae
 intro _ _; rfl
 exact Ad
 exact Ae
 exact Ae
 refine Ab ?_ ?_
 refine ba ?_ ?_ ?_
 refine fu ?_ ?_ ?_ ?_
 rfl
 exact hu
 exact sv Hi
 exact ae
 refine Ab ?_ ?_
 refine aq ?_
 refine Ax ?_
 refine Aa ?_ ?_
 exact Ah
 refine Aa ?_ ?_
 refine ai ih.i__law_fraction hr (by rfl) T.m__law_fraction T.f__law_fraction.kp T.b__law_fraction .nil Ai aj (Ag rfl) ?_
 refine Aa ?_ ?_
 refine Cn ?_ ?_
 exact sv Ik
 exact ae
 exact Ad
 exact Ad
 exact Ae
 exact Ae
 refine Ab ?_ ?_
 refine ba ?_ ?_ ?_
 refine fu ?_ ?_ ?_ ?_
 rfl
 exact hu
 exact sv Hi
 exact ae
 refine Ab ?_ ?_
 refine aq ?_
 refine Ax ?_
 refine Aa ?_ ?_
 exact Ah
 refine Aa ?_ ?_
 refine ai ih.i__law_fraction hr (by rfl) T.m__law_fraction T.f__law_fraction.kp T.b__law_fraction .nil Ai aj (Ag rfl) ?_
 refine Aa ?_ ?_
 refine Cn ?_ ?_
 exact sv Ik
 exact ae
 exact Ad
 refine Aa ?_ ?_
 refine ai ih.i__law_term hr (by rfl) T.m__law_term T.f__law_term.kp T.b__law_term .nil Ai aj (Ag rfl) ?_
 refine Aa ?_ ?_
 exact sv Gj
 refine Aa ?_ ?_
 refine Cw ?_ ?_
 exact sv gk
 exact ae
 exact Ad
 exact Ad
 exact Ae
 exact Ae
 refine Ab ?_ ?_
 refine ba ?_ ?_ ?_
 refine fu ?_ ?_ ?_ ?_
 rfl
 exact hu
 exact sv Hi
 exact ae
 refine Ab ?_ ?_
 refine aq ?_
 refine Ax ?_
 refine Aa ?_ ?_
 exact Ah
 refine Aa ?_ ?_
 exact Ah
 refine Aa ?_ ?_
 refine Ax ?_
 refine Aa ?_ ?_
 refine ai ih.i__law_term hr (by rfl) T.m__law_term T.f__law_term.kp T.b__law_term .nil Ai aj (Ag rfl) ?_
 refine Aa ?_ ?_
 exact sv Gj
 refine Aa ?_ ?_
 refine Cw ?_ ?_
 exact sv gk
 exact ae
 exact Ad
 exact Ad
 exact Ad
 exact Ae
 exact Ae
 refine Ab ?_ ?_
 refine ba ?_ ?_ ?_
 refine Fd ?_ ?_
 exact sv Hi
 exact ae
 refine Ab ?_ ?_
 refine bf (i := 4) ?_ ?_ ?_ ?_
 exact Ij.nd
 rfl
 exact Or.inl Rz
 refine ai ih.i__law_array hr (by rfl) T.m__law_array T.f__law_array.kp T.b__law_array .nil Ai aj (Ag rfl) ?_
 refine Aa ?_ ?_
 exact sv Gj
 refine Aa ?_ ?_
 refine Cw ?_ ?_
 exact sv gk
 exact ae
 exact Ad
 refine Ab ?_ ?_
 refine aq ?_
 refine Ax ?_
 refine Aa ?_ ?_
 exact Ah
 refine Aa ?_ ?_
 exact sv Rz
 refine Aa ?_ ?_
 refine ai ih.i__law_term hr (by rfl) T.m__law_term T.f__law_term.kp T.b__law_term .nil Ai aj (Ag rfl) ?_
 refine Aa ?_ ?_
 exact sv Gj
 refine Aa ?_ ?_
 refine Cw ?_ ?_
 exact sv gk
 exact ae
 exact Ad
 exact Ad
 exact Ae
 exact Ae
 refine Ab ?_ ?_
 refine bf (i := 5) ?_ ?_ ?_ ?_
 exact Ij.nd
 rfl
 exact Or.inl Sa
 refine ai ih.i__law_term hr (by rfl) T.m__law_term T.f__law_term.kp T.b__law_term .nil Ai aj (Ag rfl) ?_
 refine Aa ?_ ?_
 exact sv Gj
 refine Aa ?_ ?_
 refine Cw ?_ ?_
 exact sv gk
 exact ae
 exact Ad
 refine Ab ?_ ?_
 refine aq ?_
 refine Ax ?_
 refine Aa ?_ ?_
 exact Ah
 refine Aa ?_ ?_
 refine Ax ?_
 refine Aa ?_ ?_
 exact sv Sa
 refine Aa ?_ ?_
 refine ai ih.i__law_term hr (by rfl) T.m__law_term T.f__law_term.kp T.b__law_term .nil Ai aj (Ag rfl) ?_
 refine Aa ?_ ?_
 exact sv Gj
 refine Aa ?_ ?_
 refine Cw ?_ ?_
 exact sv gk
 exact ae
 exact Ad
 exact Ad
 exact Ad
 exact Ae
theorem agr : Fk Pr w K mg base fd cls FF (n + 1) 48 ["_law_xs", "_law_deep"] 2 := by
 refine aw (m := 2 * n + 1) (body' := js) T.f__law_array Jy rfl fun cdv A outer s H E hrm => ?_
 have hr := hrm.mono (show 2 * n ≤ 2 * n + 1 by omega)
 have hu := hr.units
 subst hw
 refine Ab ?_ ?_
 refine bf (i := 2) ?_ ?_ ?_ ?_
 exact Jy.nd
 rfl
 exact Or.inl Mp
 refine ai ih.i__law_draw hr (by rfl) T.m__law_draw T.f__law_draw.kp T.b__law_draw .nil Ai aj (Ag rfl) ?_
 refine Aa ?_ ?_
 exact sv jz
 exact Ad
 refine Ab ?_ ?_
 refine ba ?_ ?_ ?_
 refine PW.pt ?_
 refine bp ?_ ?_
 refine Fd ?_ ?_
 exact sv Jz
 exact ae
 refine Bx ?_
 refine fu ?_ ?_ ?_ ?_
 rfl
 exact hu
 refine bx ?_ ?_
 exact sv Mp
 exact ae
 exact ae
 refine Ab ?_ ?_
 refine aq ?_
 refine Ax ?_
 refine Aa ?_ ?_
 exact Ah
 refine Aa ?_ ?_
 refine ar ?_ ?_ ?_ ?_ ?_ ?_
 rfl
 rfl
 exact hu
 refine Cv ?_
 refine Aa ?_ ?_
 exact Ah
 refine Aa ?_ ?_
 exact Ah
 exact Ad
 refine bx ?_ ?_
 refine Cn ?_ ?_
 exact sv Mp
 exact ae
 exact ae
 intro _ _; rfl
 exact Ad
 exact Ae
 exact Ae
 refine Ab ?_ ?_
 refine bf (i := 3) ?_ ?_ ?_ ?_
 exact Jy.nd
 rfl
 exact Or.inl Sb
 refine ai ih.i__law_array hr (by rfl) T.m__law_array T.f__law_array.kp T.b__law_array .nil Ai aj (Ag rfl) ?_
 refine Aa ?_ ?_
 exact sv jz
 refine Aa ?_ ?_
 refine Cw ?_ ?_
 exact sv Jz
 exact ae
 exact Ad
 refine Ab ?_ ?_
 refine bf (i := 4) ?_ ?_ ?_ ?_
 exact Jy.nd
 rfl
 exact Or.inl sd
 refine ai ih.i__law_term hr (by rfl) T.m__law_term T.f__law_term.kp T.b__law_term .nil Ai aj (Ag rfl) ?_
 refine Aa ?_ ?_
 exact sv jz
 refine Aa ?_ ?_
 refine Cw ?_ ?_
 exact sv Jz
 exact ae
 exact Ad
 refine Ab ?_ ?_
 refine aq ?_
 refine Ax ?_
 refine Aa ?_ ?_
 exact Ah
 refine Aa ?_ ?_
 exact sv Sb
 refine Aa ?_ ?_
 exact sv sd
 refine Aa ?_ ?_
 refine ai ih.i__law_term hr (by rfl) T.m__law_term T.f__law_term.kp T.b__law_term .nil Ai aj (Ag rfl) ?_
 refine Aa ?_ ?_
 exact sv jz
 refine Aa ?_ ?_
 refine Cw ?_ ?_
 exact sv Jz
 exact ae
 exact Ad
 exact Ad
 exact Ae
theorem ags : Fk Pr w K mg base fd cls FF (n + 1) 49 ["_law_cell"] 1 := by
 refine aw (m := 2 * n + 1) (body' := Js) T.f__law_read Hj rfl fun cdv A outer s H E hrm => ?_
 have hr := hrm.mono (show 2 * n ≤ 2 * n + 1 by omega)
 have hu := hr.units
 subst hw
 refine Ab ?_ ?_
 refine bf (i := 1) ?_ ?_ ?_ ?_
 exact Hj.nd
 rfl
 exact Or.inl Ka
 refine ai ih.i__law_stream hr (by rfl) T.m__law_stream T.f__law_stream.kp T.b__law_stream .nil Ai aj (Ag rfl) ?_
 refine Aa ?_ ?_
 exact sv Hk
 refine Aa ?_ ?_
 exact ae
 exact Ad
 refine Ab ?_ ?_
 refine bf (i := 2) ?_ ?_ ?_ ?_
 exact Hj.nd
 rfl
 exact Or.inl Kb
 refine Ax ?_
 refine Aa ?_ ?_
 exact Ah
 refine Aa ?_ ?_
 refine ar ?_ ?_ ?_ ?_ ?_ ?_
 rfl
 rfl
 exact hu
 refine Cv ?_
 refine Aa ?_ ?_
 exact Ah
 refine Aa ?_ ?_
 exact Ah
 exact Ad
 refine bx ?_ ?_
 exact sv Hk
 exact ae
 intro _ _; rfl
 exact Ad
 refine Ab ?_ ?_
 refine Ld (is := [3]) ?_ ?_ ?_ T.z_range ?_ ?_ ?_
 exact PassesOwn.leaving
 rfl
 rfl
 refine bx ?_ ?_
 refine Cn ?_ ?_
 exact sv Hk
 exact ae
 exact ae
 refine Cb ?_ ?_ ?_
 exact Hj.nd
 rfl
 exact Or.inl afa
 refine Ab ?_ ?_
 refine bf (i := 4) ?_ ?_ ?_ ?_
 exact Hj.nd
 rfl
 exact Or.inl Se
 refine ai ih.i__law_term hr (by rfl) T.m__law_term T.f__law_term.kp T.b__law_term .nil Ai aj (Ag rfl) ?_
 refine Aa ?_ ?_
 exact sv Ka
 refine Aa ?_ ?_
 refine bx ?_ ?_
 refine Cn ?_ ?_
 exact sv Hk
 exact ae
 exact ae
 exact Ad
 refine Ab ?_ ?_
 refine bf (i := 2) ?_ ?_ ?_ ?_
 exact Hj.nd
 rfl
 exact Or.inl Kb
 refine Ax ?_
 refine Aa ?_ ?_
 exact Ah
 refine Aa ?_ ?_
 exact sv Kb
 refine Aa ?_ ?_
 exact sv Se
 refine Aa ?_ ?_
 refine ai ih.i__law_term hr (by rfl) T.m__law_term T.f__law_term.kp T.b__law_term .nil Ai aj (Ag rfl) ?_
 refine Aa ?_ ?_
 exact sv Ka
 refine Aa ?_ ?_
 refine bx ?_ ?_
 refine Cn ?_ ?_
 exact sv Hk
 exact ae
 exact ae
 exact Ad
 exact Ad
 exact Ae
 refine Ab ?_ ?_
 refine aq ?_
 refine Ax ?_
 refine Aa ?_ ?_
 exact Ah
 refine Aa ?_ ?_
 exact sv Kb
 refine Aa ?_ ?_
 refine ai ih.i__law_term hr (by rfl) T.m__law_term T.f__law_term.kp T.b__law_term .nil Ai aj (Ag rfl) ?_
 refine Aa ?_ ?_
 exact sv Ka
 refine Aa ?_ ?_
 refine bx ?_ ?_
 refine Cn ?_ ?_
 exact sv Hk
 exact ae
 exact ae
 exact Ad
 exact Ad
 exact Ae
theorem agt : Fk Pr w K mg base fd cls FF (n + 1) 50 ["_law_names", "_law_term_here"] 2 := by
 refine aw (m := 2 * n + 1) (body' := jt) T.f__law_is Sf rfl fun cdv A outer s H E hrm => ?_
 have hr := hrm.mono (show 2 * n ≤ 2 * n + 1 by omega)
 have hu := hr.units
 subst hw
 refine Ab ?_ ?_
 refine Ld (is := [2]) ?_ ?_ ?_ T.z_range ?_ ?_ ?_
 exact PassesOwn.leaving
 rfl
 rfl
 exact ae
 refine Cb ?_ ?_ ?_
 exact Sf.nd
 rfl
 exact Or.inl afb
 refine Ab ?_ ?_
 refine ba ?_ ?_ ?_
 refine PW.pt ?_
 refine bp ?_ ?_
 refine cb ?_ ?_ ?_ ?_
 rfl
 exact hu
 refine ai ih.i_hit hr (by rfl) T.m_hit T.f_hit.kp T.b_hit .nil Ai aj (Ag rfl) ?_
 refine Aa ?_ ?_
 exact sv Dm
 exact Ad
 refine ar ?_ ?_ ?_ ?_ ?_ ?_
 rfl
 rfl
 exact hu
 refine ar ?_ ?_ ?_ ?_ ?_ ?_
 rfl
 rfl
 exact hu
 exact sv Dm
 exact ae
 intro _ _; rfl
 exact ae
 intro _ _; rfl
 refine Bx ?_
 refine cb ?_ ?_ ?_ ?_
 rfl
 exact hu
 refine ai ih.i_kind_of hr (by rfl) T.m_kind_of T.f_kind_of.kp T.b_kind_of .nil Ai aj (Ag rfl) ?_
 refine Aa ?_ ?_
 exact sv mq
 refine Aa ?_ ?_
 refine ai ih.i_hit hr (by rfl) T.m_hit T.f_hit.kp T.b_hit .nil Ai aj (Ag rfl) ?_
 refine Aa ?_ ?_
 exact sv Dm
 exact Ad
 exact Ad
 exact Ah
 refine Ab ?_ ?_
 refine aq ?_
 exact cn
 exact Ae
 exact Ae
 refine Ab ?_ ?_
 refine ba ?_ ?_ ?_
 refine PW.pt ?_
 refine bp ?_ ?_
 refine cb ?_ ?_ ?_ ?_
 rfl
 exact hu
 refine ai ih.i_miss hr (by rfl) T.m_miss T.f_miss.kp T.b_miss .nil Ai aj (Ag rfl) ?_
 refine Aa ?_ ?_
 exact sv Dm
 exact Ad
 refine Ax ?_
 refine Aa ?_ ?_
 exact Ah
 refine Aa ?_ ?_
 refine ar ?_ ?_ ?_ ?_ ?_ ?_
 rfl
 rfl
 exact hu
 refine ar ?_ ?_ ?_ ?_ ?_ ?_
 rfl
 rfl
 exact hu
 exact sv Dm
 exact ae
 intro _ _; rfl
 exact ae
 intro _ _; rfl
 refine Aa ?_ ?_
 refine ar ?_ ?_ ?_ ?_ ?_ ?_
 rfl
 rfl
 exact hu
 exact sv Dm
 exact ae
 intro _ _; rfl
 exact Ad
 refine Bx ?_
 refine cb ?_ ?_ ?_ ?_
 rfl
 exact hu
 refine ai ih.i_kind_of hr (by rfl) T.m_kind_of T.f_kind_of.kp T.b_kind_of .nil Ai aj (Ag rfl) ?_
 refine Aa ?_ ?_
 exact sv mq
 refine Aa ?_ ?_
 refine ai ih.i_miss hr (by rfl) T.m_miss T.f_miss.kp T.b_miss .nil Ai aj (Ag rfl) ?_
 refine Aa ?_ ?_
 exact sv Dm
 exact Ad
 exact Ad
 exact Ah
 refine Ab ?_ ?_
 refine aq ?_
 exact cn
 exact Ae
 exact Ae
 refine Ab ?_ ?_
 refine ba ?_ ?_ ?_
 refine PW.pt ?_
 refine bp ?_ ?_
 refine cb ?_ ?_ ?_ ?_
 rfl
 exact hu
 refine ai ih.i_need hr (by rfl) T.m_need T.f_need.kp T.b_need .nil Ai aj (Ag rfl) ?_
 refine Aa ?_ ?_
 exact sv Dm
 exact Ad
 refine Ax ?_
 refine Aa ?_ ?_
 exact Ah
 refine Aa ?_ ?_
 refine ar ?_ ?_ ?_ ?_ ?_ ?_
 rfl
 rfl
 exact hu
 exact sv Dm
 exact ae
 intro _ _; rfl
 refine Aa ?_ ?_
 refine ar ?_ ?_ ?_ ?_ ?_ ?_
 rfl
 rfl
 exact hu
 refine ar ?_ ?_ ?_ ?_ ?_ ?_
 rfl
 rfl
 exact hu
 exact sv Dm
 exact ae
 intro _ _; rfl
 exact ae
 intro _ _; rfl
 exact Ad
 refine Bx ?_
 refine Lf ?_ ?_ ?_ ?_ ?_
 rfl
 rfl
 exact hu
 refine ai ih.i_check_statement hr (by rfl) T.m_check_statement T.f_check_statement.kp T.b_check_statement .nil Ai aj (Ag rfl) ?_
 refine Aa ?_ ?_
 exact sv mq
 refine Aa ?_ ?_
 refine ai ih.i_need hr (by rfl) T.m_need T.f_need.kp T.b_need .nil Ai aj (Ag rfl) ?_
 refine Aa ?_ ?_
 exact sv Dm
 exact Ad
 exact Ad
 exact gw
 refine Ab ?_ ?_
 refine aq ?_
 exact cn
 exact Ae
 exact Ae
 exact Ae
 refine Ab ?_ ?_
 refine aq ?_
 exact cn
 exact Ae
theorem agu : Fk Pr w K mg base fd cls FF (n + 1) 51 ["_law_script"] 1 := by
 refine aw (m := 2 * n + 1) (body' := Hd) T.f_law fj rfl fun cdv A outer s H E hrm => ?_
 have hr := hrm.mono (show 2 * n ≤ 2 * n + 1 by omega)
 have hu := hr.units
 subst hw
 refine Ab ?_ ?_
 refine bf (i := 1) ?_ ?_ ?_ ?_
 exact fj.nd
 rfl
 exact Or.inl Sg
 refine yj (k := 2 * n) (np := 6) T.k_Names ?_ ?_ ?_ T.mc_Names T.b_Names_9__init__ ?_ ?_ ?_
 exact ih.i_Names_9__init__
 exact hrm
 rfl
 exact aj
 exact Ag rfl
 refine Aa ?_ ?_
 refine Cv ?_
 refine Aa ?_ ?_
 exact Ah
 refine Aa ?_ ?_
 exact Ah
 refine Aa ?_ ?_
 exact Ah
 exact Ad
 refine Aa ?_ ?_
 refine Cv ?_
 refine Aa ?_ ?_
 refine Ax ?_
 refine Aa ?_ ?_
 exact Ah
 refine Aa ?_ ?_
 exact ae
 refine Aa ?_ ?_
 exact ae
 exact Ad
 exact Ad
 refine Aa ?_ ?_
 refine Cv ?_
 exact Ad
 refine Aa ?_ ?_
 refine Cv ?_
 refine Aa ?_ ?_
 refine Ax ?_
 refine Aa ?_ ?_
 exact Ah
 refine Aa ?_ ?_
 refine Ax ?_
 refine Aa ?_ ?_
 exact Ah
 exact Ad
 refine Aa ?_ ?_
 exact Ah
 exact Ad
 exact Ad
 refine Aa ?_ ?_
 refine Cv ?_
 refine Aa ?_ ?_
 exact Ah
 refine Aa ?_ ?_
 exact Ah
 exact Ad
 exact Ad
 refine Ab ?_ ?_
 refine Le (is := [2]) ?_ ?_ ?_ ?_ ?_ ?_
 rfl
 exact PassesOwn.leaving
 rfl
 refine cw ?_ ?_
 refine Yd ?_ ?_ ?_
 rfl
 exact sv afc
 exact ae
 refine Cv ?_
 refine Aa ?_ ?_
 exact ae
 exact Ad
 refine Cb ?_ ?_ ?_
 exact fj.nd
 rfl
 exact Or.inl Mq
 refine Ab ?_ ?_
 refine bf (i := 3) ?_ ?_ ?_ ?_
 exact fj.nd
 rfl
 exact Or.inl En
 refine ai ih.i__law_read hr (by rfl) T.m__law_read T.f__law_read.kp T.b__law_read .nil Ai aj (Ag rfl) ?_
 refine Aa ?_ ?_
 exact sv Mq
 exact Ad
 refine Ab ?_ ?_
 refine bf (i := 4) ?_ ?_ ?_ ?_
 exact fj.nd
 rfl
 exact Or.inl sh
 refine bx ?_ ?_
 refine Cn ?_ ?_
 exact sv Mq
 exact ae
 exact ae
 refine Ab ?_ ?_
 refine Ld (is := [5]) ?_ ?_ ?_ T.z_range ?_ ?_ ?_
 exact PassesOwn.leaving
 rfl
 rfl
 exact sv sh
 refine Cb ?_ ?_ ?_
 exact fj.nd
 rfl
 exact Or.inl afd
 refine Ab ?_ ?_
 refine ba ?_ ?_ ?_
 refine PW.pt ?_
 refine bp ?_ ?_
 refine Lf ?_ ?_ ?_ ?_ ?_
 rfl
 rfl
 exact hu
 refine ai ih.i_is_read_of_put hr (by rfl) T.m_is_read_of_put T.f_is_read_of_put.kp T.b_is_read_of_put .nil Ai aj (Ag rfl) ?_
 refine Aa ?_ ?_
 exact sv En
 exact Ad
 exact cn
 refine Bx ?_
 refine Bm ?_
 refine Bl ?_ ?_ ?_ ?_
 rfl
 refine ai ih.i__law_is hr (by rfl) T.m__law_is T.f__law_is.kp T.b__law_is .nil Ai aj (Ag rfl) ?_
 refine Aa ?_ ?_
 exact sv Sg
 refine Aa ?_ ?_
 exact sv En
 exact Ad
 exact Dh
 intro _; rfl
 refine Ab ?_ ?_
 refine aq ?_
 exact cn
 exact Ae
 exact Ae
 refine Ab ?_ ?_
 refine bf (i := 3) ?_ ?_ ?_ ?_
 exact fj.nd
 rfl
 exact Or.inl En
 refine ai ih.i_miss hr (by rfl) T.m_miss T.f_miss.kp T.b_miss .nil Ai aj (Ag rfl) ?_
 refine Aa ?_ ?_
 exact sv En
 exact Ad
 exact Ae
 refine Ab ?_ ?_
 refine ba ?_ ?_ ?_
 refine PW.pt ?_
 refine bp ?_ ?_
 refine Lf ?_ ?_ ?_ ?_ ?_
 rfl
 rfl
 exact hu
 refine ai ih.i_is_read_of_put hr (by rfl) T.m_is_read_of_put T.f_is_read_of_put.kp T.b_is_read_of_put .nil Ai aj (Ag rfl) ?_
 refine Aa ?_ ?_
 exact sv En
 exact Ad
 exact cn
 refine Bx ?_
 refine cb ?_ ?_ ?_ ?_
 rfl
 exact hu
 refine ar ?_ ?_ ?_ ?_ ?_ ?_
 rfl
 rfl
 exact hu
 refine ar ?_ ?_ ?_ ?_ ?_ ?_
 rfl
 rfl
 exact hu
 exact sv En
 exact ae
 intro _ _; rfl
 exact ae
 intro _ _; rfl
 exact Ah
 refine Ab ?_ ?_
 refine aq ?_
 exact cn
 exact Ae
 exact Ae
 refine Ab ?_ ?_
 refine Le (is := [6]) ?_ ?_ ?_ ?_ ?_ ?_
 rfl
 exact PassesOwn.leaving
 rfl
 refine Cv ?_
 refine Aa ?_ ?_
 refine ar ?_ ?_ ?_ ?_ ?_ ?_
 rfl
 rfl
 exact hu
 exact sv En
 exact ae
 intro _ _; rfl
 refine Aa ?_ ?_
 refine Ax ?_
 refine Aa ?_ ?_
 exact Ah
 refine Aa ?_ ?_
 exact Ah
 exact Ad
 refine Aa ?_ ?_
 refine Ax ?_
 refine Aa ?_ ?_
 exact Ah
 refine Aa ?_ ?_
 refine Ax ?_
 exact Ad
 exact Ad
 refine Aa ?_ ?_
 refine Ax ?_
 refine Aa ?_ ?_
 exact Ah
 refine Aa ?_ ?_
 refine Ax ?_
 refine Aa ?_ ?_
 exact ae
 refine Aa ?_ ?_
 exact ae
 exact Ad
 exact Ad
 refine Aa ?_ ?_
 refine Ax ?_
 refine Aa ?_ ?_
 exact Ah
 refine Aa ?_ ?_
 exact Ah
 refine Aa ?_ ?_
 refine Ax ?_
 refine Aa ?_ ?_
 exact sv En
 exact Ad
 exact Ad
 exact Ad
 refine Cb ?_ ?_ ?_
 exact fj.nd
 rfl
 exact Or.inl kc
 refine Ab ?_ ?_
 refine ba ?_ ?_ ?_
 refine cb ?_ ?_ ?_ ?_
 rfl
 exact hu
 refine ai ih.i_is_read_of_put hr (by rfl) T.m_is_read_of_put T.f_is_read_of_put.kp T.b_is_read_of_put .nil Ai aj (Ag rfl) ?_
 refine Aa ?_ ?_
 exact sv kc
 exact Ad
 refine Dz ?_ ?_
 refine Gw ?_ ?_ ?_ ?_
 rfl
 exact hu
 refine ar ?_ ?_ ?_ ?_ ?_ ?_
 rfl
 rfl
 exact hu
 exact sv kc
 exact ae
 intro _ _; rfl
 exact Ah
 refine Fe ?_
 refine Gw ?_ ?_ ?_ ?_
 rfl
 exact hu
 refine ar ?_ ?_ ?_ ?_ ?_ ?_
 rfl
 rfl
 exact hu
 refine ar ?_ ?_ ?_ ?_ ?_ ?_
 rfl
 rfl
 exact hu
 exact sv kc
 exact ae
 intro _ _; rfl
 exact ae
 intro _ _; rfl
 exact Ah
 refine Ab ?_ ?_
 refine aq ?_
 exact cn
 exact Ae
 exact Ae
 exact Ae
 exact Ae
 refine Ab ?_ ?_
 refine aq ?_
 exact cn
 exact Ae
end
theorem Sh (hw : cls.w = w) (T : Txt K mg fd cls) : ∀ n, IH Pr w K mg base fd cls FF n
 | 0 => ⟨Aw, Aw, Aw, Aw, Aw, Aw, Aw, Aw, Aw, Aw, Aw, Aw, Aw, Aw, Aw, Aw, Aw, Aw, Aw, Aw, Aw, Aw, Aw, Aw, Aw, Aw, Aw, Aw, Aw, Aw, Aw, Aw, Aw, Aw, Aw, Aw, Aw, Aw, Aw, Aw, Aw, Aw, Aw⟩
 | n + 1 => by
  have ih := Sh hw T n
  exact ⟨afe hw T ih, aff hw T ih, afg hw T ih, afh hw T ih, afi hw T ih, afj hw T ih, afk hw T ih, afl hw T ih, afm hw T ih, afn hw T ih, afo hw T ih, afp hw T ih, afq hw T ih, afr hw T ih, afs hw T ih, aft hw T ih, afu hw T ih, afv hw T ih, afw hw T ih, afx hw T ih, afy hw T ih, afz hw T ih, aga hw T ih, agb hw T ih, agc hw T ih, agd hw T ih, age hw T ih, agf hw T ih, agg hw T ih, agh hw T ih, agi hw T ih, agj hw T ih, agk hw T ih, agl hw T ih, agm hw T ih, agn hw T ih, ago hw T ih, agp hw T ih, agq hw T ih, agr hw T ih, ags hw T ih, agt hw T ih, agu hw T ih⟩
end
abbrev si (l : List Addr) : Nat → Addr := fun i => l.getD i 0
instance : Inhabited FuncData := ⟨PySem.W.fnOf "" "" (gu (.Pass ⟨0, 0, 0, 0⟩)) (er (.Pass ⟨0, 0, 0, 0⟩)) (Ao (.Pass ⟨0, 0, 0, 0⟩)) .none .none .none .none none .none .none⟩
theorem agv (kV doc pm : Value) (an : Option Addr) (cdv ct : Value) (us : List Value) (hl : us.length = 1) : bindArgs (fO "law" "law" Cs .none kV doc pm an cdv ct) ⟨us, []⟩ = pure ((["_law_script"] : List Str).zip us) := match us, hl with | [_], _ => rfl
theorem agw {K : PySem.W.Frag} {kv1 dc1 pm1 cd1 ct1 : Value} {an1 : Option Addr} : Binds K (fO "is_read_of_put" "is_read_of_put" fx .none kv1 dc1 pm1 an1 cd1 ct1) ["term"] [] := Binds.all fun us hl => match us, hl with | [_], _ => rfl
theorem agx {K : PySem.W.Frag} {kv2 dc2 pm2 cd2 ct2 : Value} {an2 : Option Addr} : Binds K (fO "hit" "hit" Fx .none kv2 dc2 pm2 an2 cd2 ct2) ["read"] [] := Binds.all fun us hl => match us, hl with | [_], _ => rfl
theorem agy {K : PySem.W.Frag} {kv3 dc3 pm3 cd3 ct3 : Value} {an3 : Option Addr} : Binds K (fO "miss" "miss" fy .none kv3 dc3 pm3 an3 cd3 ct3) ["read"] [] := Binds.all fun us hl => match us, hl with | [_], _ => rfl
theorem agz {K : PySem.W.Frag} {kv4 dc4 pm4 cd4 ct4 : Value} {an4 : Option Addr} : Binds K (fO "need" "need" Fy .none kv4 dc4 pm4 an4 cd4 ct4) ["read"] [] := Binds.all fun us hl => match us, hl with | [_], _ => rfl
theorem aha {K : PySem.W.Frag} {kv5 dc5 pm5 cd5 ct5 : Value} {an5 : Option Addr} : Binds K (fO "is_whole" "is_whole" Fz .none kv5 dc5 pm5 an5 cd5 ct5) ["thing"] [] := Binds.all fun us hl => match us, hl with | [_], _ => rfl
theorem ahb {K : PySem.W.Frag} {kv6 dc6 pm6 cd6 ct6 : Value} {an6 : Option Addr} : Binds K (fO "is_fraction" "is_fraction" Eg .none kv6 dc6 pm6 an6 cd6 ct6) ["thing"] [] := Binds.all fun us hl => match us, hl with | [_], _ => rfl
theorem ahc {K : PySem.W.Frag} {kv7 dc7 pm7 cd7 ct7 : Value} {an7 : Option Addr} : Binds K (fO "common_divisor" "common_divisor" fg .none kv7 dc7 pm7 an7 cd7 ct7) ["one", "other"] [] := Binds.all fun us hl => match us, hl with | [_, _], _ => rfl
theorem ahd {K : PySem.W.Frag} {kv8 dc8 pm8 cd8 ct8 : Value} {an8 : Option Addr} : Binds K (fO "is_name" "is_name" Ga .none kv8 dc8 pm8 an8 cd8 ct8) ["thing"] [] := Binds.all fun us hl => match us, hl with | [_], _ => rfl
theorem ahe {K : PySem.W.Frag} {kv9 dc9 pm9 cd9 ct9 : Value} {an9 : Option Addr} : Binds K (fO "is_row" "is_row" gb .none kv9 dc9 pm9 an9 cd9 ct9) ["thing"] [] := Binds.all fun us hl => match us, hl with | [_], _ => rfl
theorem ahf {K : PySem.W.Frag} {kv10 dc10 pm10 cd10 ct10 : Value} {an10 : Option Addr} : Binds K (fO "is_kind" "is_kind" Gb .none kv10 dc10 pm10 an10 cd10 ct10) ["thing"] [] := Binds.all fun us hl => match us, hl with | [_], _ => rfl
theorem ahg {K : PySem.W.Frag} {kv11 dc11 pm11 cd11 ct11 : Value} {an11 : Option Addr} : Binds K (fO "is_list_of_names" "is_list_of_names" gc .none kv11 dc11 pm11 an11 cd11 ct11) ["thing"] [] := Binds.all fun us hl => match us, hl with | [_], _ => rfl
theorem ahh {K : PySem.W.Frag} {kv12 dc12 pm12 cd12 ct12 : Value} {an12 : Option Addr} : Binds K (fO "is_bounded" "is_bounded" gd .none kv12 dc12 pm12 an12 cd12 ct12) ["thing"] [] := Binds.all fun us hl => match us, hl with | [_], _ => rfl
theorem ahi {K : PySem.W.Frag} {kv13 dc13 pm13 cd13 ct13 : Value} {an13 : Option Addr} : Binds K (fO "is_function" "is_function" Gd .none kv13 dc13 pm13 an13 cd13 ct13) ["thing"] [] := Binds.all fun us hl => match us, hl with | [_], _ => rfl
theorem ahj {K : PySem.W.Frag} {kv14 dc14 pm14 cd14 ct14 : Value} {an14 : Option Addr} : Binds K (fO "check_wholes" "check_wholes" dk .none kv14 dc14 pm14 an14 cd14 ct14) ["wholes"] [] := Binds.all fun us hl => match us, hl with | [_], _ => rfl
theorem ahk {K : PySem.W.Frag} {kv15 dc15 pm15 cd15 ct15 : Value} {an15 : Option Addr} : Binds K (fO "check_functions" "check_functions" Ge .none kv15 dc15 pm15 an15 cd15 ct15) ["functions"] [] := Binds.all fun us hl => match us, hl with | [_], _ => rfl
theorem ahl {K : PySem.W.Frag} {kv16 dc16 pm16 cd16 ct16 : Value} {an16 : Option Addr} : Binds K (fO "check_names" "check_names" gf .none kv16 dc16 pm16 an16 cd16 ct16) ["names"] [] := Binds.all fun us hl => match us, hl with | [_], _ => rfl
theorem ahm {K : PySem.W.Frag} {kv17 dc17 pm17 cd17 ct17 : Value} {an17 : Option Addr} : Binds K (fO "first_parts" "first_parts" Gf .none kv17 dc17 pm17 an17 cd17 ct17) ["rows"] [] := Binds.all fun us hl => match us, hl with | [_], _ => rfl
theorem ahn {K : PySem.W.Frag} {kv18 dc18 pm18 cd18 ct18 : Value} {an18 : Option Addr} : Binds K (fO "check_unlike" "check_unlike" Gg .none kv18 dc18 pm18 an18 cd18 ct18) ["names"] [] := Binds.all fun us hl => match us, hl with | [_], _ => rfl
theorem aho {K : PySem.W.Frag} {kv19 dc19 pm19 cd19 ct19 : Value} {an19 : Option Addr} : Binds K (fO "__init__" "Names.__init__" Cz .none kv19 dc19 pm19 an19 cd19 ct19) ["self", "numbers", "wholes", "things", "functions", "arrays"] [] := Binds.all fun us hl => match us, hl with | [_, _, _, _, _, _], _ => rfl
theorem ahp {K : PySem.W.Frag} {kv25 dc25 pm25 cd25 ct25 : Value} {an25 : Option Addr} : Binds K (fO "kind" "Names.kind" Fg .none kv25 dc25 pm25 an25 cd25 ct25) ["self", "name"] [] := Binds.all fun us hl => match us, hl with | [_, _], _ => rfl
theorem ahq {K : PySem.W.Frag} {kv27 dc27 pm27 cd27 ct27 : Value} {an27 : Option Addr} : Binds K (fO "function" "Names.function" fh .none kv27 dc27 pm27 an27 cd27 ct27) ["self", "name"] [] := Binds.all fun us hl => match us, hl with | [_, _], _ => rfl
theorem ahr {K : PySem.W.Frag} {kv28 dc28 pm28 cd28 ct28 : Value} {an28 : Option Addr} : Binds K (fO "word_of" "word_of" gh .none kv28 dc28 pm28 an28 cd28 ct28) ["thing"] [] := Binds.all fun us hl => match us, hl with | [_], _ => rfl
theorem ahs {K : PySem.W.Frag} {kv29 dc29 pm29 cd29 ct29 : Value} {an29 : Option Addr} : Binds K (fO "kind_of" "kind_of" Fh .none kv29 dc29 pm29 an29 cd29 ct29) ["names", "term"] [] := Binds.all fun us hl => match us, hl with | [_, _], _ => rfl
theorem aht {K : PySem.W.Frag} {kv30 dc30 pm30 cd30 ct30 : Value} {an30 : Option Addr} : Binds K (fO "kind_within" "kind_within" Dk .none kv30 dc30 pm30 an30 cd30 ct30) ["names", "term", "room"] [] := Binds.all fun us hl => match us, hl with | [_, _, _], _ => rfl
theorem ahu {K : PySem.W.Frag} {kv31 dc31 pm31 cd31 ct31 : Value} {an31 : Option Addr} : Binds K (fO "check_kinds" "check_kinds" Dd .none kv31 dc31 pm31 an31 cd31 ct31) ["names", "terms", "kinds", "room"] [] := Binds.all fun us hl => match us, hl with | [_, _, _, _], _ => rfl
theorem ahv {K : PySem.W.Frag} {kv32 dc32 pm32 cd32 ct32 : Value} {an32 : Option Addr} : Binds K (fO "kind_of_number" "kind_of_number" Gh .none kv32 dc32 pm32 an32 cd32 ct32) ["names", "term", "room"] [] := Binds.all fun us hl => match us, hl with | [_, _, _], _ => rfl
theorem ahw {K : PySem.W.Frag} {kv33 dc33 pm33 cd33 ct33 : Value} {an33 : Option Addr} : Binds K (fO "kind_of_unknown" "kind_of_unknown" Eh .none kv33 dc33 pm33 an33 cd33 ct33) ["names", "term", "room"] [] := Binds.all fun us hl => match us, hl with | [_, _, _], _ => rfl
theorem ahx {K : PySem.W.Frag} {kv34 dc34 pm34 cd34 ct34 : Value} {an34 : Option Addr} : Binds K (fO "kind_of_weigh" "kind_of_weigh" Ei .none kv34 dc34 pm34 an34 cd34 ct34) ["names", "term", "room"] [] := Binds.all fun us hl => match us, hl with | [_, _, _], _ => rfl
theorem ahy {K : PySem.W.Frag} {kv35 dc35 pm35 cd35 ct35 : Value} {an35 : Option Addr} : Binds K (fO "kind_of_plus" "kind_of_plus" ej .none kv35 dc35 pm35 an35 cd35 ct35) ["names", "term", "room"] [] := Binds.all fun us hl => match us, hl with | [_, _, _], _ => rfl
theorem ahz {K : PySem.W.Frag} {kv36 dc36 pm36 cd36 ct36 : Value} {an36 : Option Addr} : Binds K (fO "kind_of_call" "kind_of_call" de .none kv36 dc36 pm36 an36 cd36 ct36) ["names", "term", "room"] [] := Binds.all fun us hl => match us, hl with | [_, _, _], _ => rfl
theorem aia {K : PySem.W.Frag} {kv37 dc37 pm37 cd37 ct37 : Value} {an37 : Option Addr} : Binds K (fO "kind_of_read" "kind_of_read" Ej .none kv37 dc37 pm37 an37 cd37 ct37) ["names", "term", "room"] [] := Binds.all fun us hl => match us, hl with | [_, _, _], _ => rfl
theorem aib {K : PySem.W.Frag} {kv38 dc38 pm38 cd38 ct38 : Value} {an38 : Option Addr} : Binds K (fO "kind_of_put" "kind_of_put" Ek .none kv38 dc38 pm38 an38 cd38 ct38) ["names", "term", "room"] [] := Binds.all fun us hl => match us, hl with | [_, _, _], _ => rfl
theorem aic {K : PySem.W.Frag} {kv39 dc39 pm39 cd39 ct39 : Value} {an39 : Option Addr} : Binds K (fO "check_statement" "check_statement" Fi .none kv39 dc39 pm39 an39 cd39 ct39) ["names", "statement"] [] := Binds.all fun us hl => match us, hl with | [_, _], _ => rfl
theorem aid {K : PySem.W.Frag} {kv40 dc40 pm40 cd40 ct40 : Value} {an40 : Option Addr} : Binds K (fO "check_within" "check_within" dt .none kv40 dc40 pm40 an40 cd40 ct40) ["names", "statement", "room"] [] := Binds.all fun us hl => match us, hl with | [_, _, _], _ => rfl
theorem aie {K : PySem.W.Frag} {kv42 dc42 pm42 cd42 ct42 : Value} {an42 : Option Addr} : Binds K (fO "check_atom" "check_atom" Dt .none kv42 dc42 pm42 an42 cd42 ct42) ["names", "atom", "room"] [] := Binds.all fun us hl => match us, hl with | [_, _, _], _ => rfl
theorem aif {K : PySem.W.Frag} {kv44 dc44 pm44 cd44 ct44 : Value} {an44 : Option Addr} : Binds K (fO "_law_stream" "_law_stream" De .none kv44 dc44 pm44 an44 cd44 ct44) ["_law_cell", "_law_many"] [] := Binds.all fun us hl => match us, hl with | [_, _], _ => rfl
theorem aih {K : PySem.W.Frag} {kv45 dc45 pm45 cd45 ct45 : Value} {an45 : Option Addr} : Binds K (fO "_law_draw" "_law_draw" gi .none kv45 dc45 pm45 an45 cd45 ct45) ["_law_xs"] [] := Binds.all fun us hl => match us, hl with | [_], _ => rfl
theorem aii {K : PySem.W.Frag} {kv46 dc46 pm46 cd46 ct46 : Value} {an46 : Option Addr} : Binds K (fO "_law_fraction" "_law_fraction" El .none kv46 dc46 pm46 an46 cd46 ct46) ["_law_number"] [] := Binds.all fun us hl => match us, hl with | [_], _ => rfl
theorem aij {K : PySem.W.Frag} {kv47 dc47 pm47 cd47 ct47 : Value} {an47 : Option Addr} : Binds K (fO "_law_term" "_law_term" df .none kv47 dc47 pm47 an47 cd47 ct47) ["_law_xs", "_law_deep"] [] := Binds.all fun us hl => match us, hl with | [_, _], _ => rfl
theorem aik {K : PySem.W.Frag} {kv48 dc48 pm48 cd48 ct48 : Value} {an48 : Option Addr} : Binds K (fO "_law_array" "_law_array" Dl .none kv48 dc48 pm48 an48 cd48 ct48) ["_law_xs", "_law_deep"] [] := Binds.all fun us hl => match us, hl with | [_, _], _ => rfl
theorem ail {K : PySem.W.Frag} {kv49 dc49 pm49 cd49 ct49 : Value} {an49 : Option Addr} : Binds K (fO "_law_read" "_law_read" dm .none kv49 dc49 pm49 an49 cd49 ct49) ["_law_cell"] [] := Binds.all fun us hl => match us, hl with | [_], _ => rfl
theorem aim {K : PySem.W.Frag} {kv50 dc50 pm50 cd50 ct50 : Value} {an50 : Option Addr} : Binds K (fO "_law_is" "_law_is" Em .none kv50 dc50 pm50 an50 cd50 ct50) ["_law_names", "_law_term_here"] [] := Binds.all fun us hl => match us, hl with | [_, _], _ => rfl
theorem ain {K : PySem.W.Frag} {kv51 dc51 pm51 cd51 ct51 : Value} {an51 : Option Addr} : Binds K (fO "law" "law" Cs .none kv51 dc51 pm51 an51 cd51 ct51) ["_law_script"] [] := Binds.all fun us hl => match us, hl with | [_], _ => rfl
set_option maxHeartbeats 0 in
theorem aio (w : World) {K : PySem.W.Frag} {mg : Str → Option Value} {h : Heap} (X : K.In h) (G : h.Ns mainGlobals mg)
    {g4 : Addr}
    {f1 : Addr} {oc1 kv1 dc1 pm1 cd1 ct1 : Value} {od1 an1 : Option Addr} {sl1 : Array (Option Value)}
    {f2 : Addr} {oc2 kv2 dc2 pm2 cd2 ct2 : Value} {od2 an2 : Option Addr} {sl2 : Array (Option Value)}
    {f3 : Addr} {oc3 kv3 dc3 pm3 cd3 ct3 : Value} {od3 an3 : Option Addr} {sl3 : Array (Option Value)}
    {f4 : Addr} {oc4 kv4 dc4 pm4 cd4 ct4 : Value} {od4 an4 : Option Addr} {sl4 : Array (Option Value)}
    {f5 : Addr} {oc5 kv5 dc5 pm5 cd5 ct5 : Value} {od5 an5 : Option Addr} {sl5 : Array (Option Value)}
    {f6 : Addr} {oc6 kv6 dc6 pm6 cd6 ct6 : Value} {od6 an6 : Option Addr} {sl6 : Array (Option Value)}
    {f7 : Addr} {oc7 kv7 dc7 pm7 cd7 ct7 : Value} {od7 an7 : Option Addr} {sl7 : Array (Option Value)}
    {f8 : Addr} {oc8 kv8 dc8 pm8 cd8 ct8 : Value} {od8 an8 : Option Addr} {sl8 : Array (Option Value)}
    {f9 : Addr} {oc9 kv9 dc9 pm9 cd9 ct9 : Value} {od9 an9 : Option Addr} {sl9 : Array (Option Value)}
    {f10 : Addr} {oc10 kv10 dc10 pm10 cd10 ct10 : Value} {od10 an10 : Option Addr} {sl10 : Array (Option Value)}
    {f11 : Addr} {oc11 kv11 dc11 pm11 cd11 ct11 : Value} {od11 an11 : Option Addr} {sl11 : Array (Option Value)}
    {f12 : Addr} {oc12 kv12 dc12 pm12 cd12 ct12 : Value} {od12 an12 : Option Addr} {sl12 : Array (Option Value)}
    {f13 : Addr} {oc13 kv13 dc13 pm13 cd13 ct13 : Value} {od13 an13 : Option Addr} {sl13 : Array (Option Value)}
    {f14 : Addr} {oc14 kv14 dc14 pm14 cd14 ct14 : Value} {od14 an14 : Option Addr} {sl14 : Array (Option Value)}
    {f15 : Addr} {oc15 kv15 dc15 pm15 cd15 ct15 : Value} {od15 an15 : Option Addr} {sl15 : Array (Option Value)}
    {f16 : Addr} {oc16 kv16 dc16 pm16 cd16 ct16 : Value} {od16 an16 : Option Addr} {sl16 : Array (Option Value)}
    {f17 : Addr} {oc17 kv17 dc17 pm17 cd17 ct17 : Value} {od17 an17 : Option Addr} {sl17 : Array (Option Value)}
    {f18 : Addr} {oc18 kv18 dc18 pm18 cd18 ct18 : Value} {od18 an18 : Option Addr} {sl18 : Array (Option Value)}
    {f19 : Addr} {oc19 kv19 dc19 pm19 cd19 ct19 : Value} {od19 an19 : Option Addr} {sl19 : Array (Option Value)}
    {f25 : Addr} {oc25 kv25 dc25 pm25 cd25 ct25 : Value} {od25 an25 : Option Addr} {sl25 : Array (Option Value)}
    {f27 : Addr} {oc27 kv27 dc27 pm27 cd27 ct27 : Value} {od27 an27 : Option Addr} {sl27 : Array (Option Value)}
    {f28 : Addr} {oc28 kv28 dc28 pm28 cd28 ct28 : Value} {od28 an28 : Option Addr} {sl28 : Array (Option Value)}
    {f29 : Addr} {oc29 kv29 dc29 pm29 cd29 ct29 : Value} {od29 an29 : Option Addr} {sl29 : Array (Option Value)}
    {f30 : Addr} {oc30 kv30 dc30 pm30 cd30 ct30 : Value} {od30 an30 : Option Addr} {sl30 : Array (Option Value)}
    {f31 : Addr} {oc31 kv31 dc31 pm31 cd31 ct31 : Value} {od31 an31 : Option Addr} {sl31 : Array (Option Value)}
    {f32 : Addr} {oc32 kv32 dc32 pm32 cd32 ct32 : Value} {od32 an32 : Option Addr} {sl32 : Array (Option Value)}
    {f33 : Addr} {oc33 kv33 dc33 pm33 cd33 ct33 : Value} {od33 an33 : Option Addr} {sl33 : Array (Option Value)}
    {f34 : Addr} {oc34 kv34 dc34 pm34 cd34 ct34 : Value} {od34 an34 : Option Addr} {sl34 : Array (Option Value)}
    {f35 : Addr} {oc35 kv35 dc35 pm35 cd35 ct35 : Value} {od35 an35 : Option Addr} {sl35 : Array (Option Value)}
    {f36 : Addr} {oc36 kv36 dc36 pm36 cd36 ct36 : Value} {od36 an36 : Option Addr} {sl36 : Array (Option Value)}
    {f37 : Addr} {oc37 kv37 dc37 pm37 cd37 ct37 : Value} {od37 an37 : Option Addr} {sl37 : Array (Option Value)}
    {f38 : Addr} {oc38 kv38 dc38 pm38 cd38 ct38 : Value} {od38 an38 : Option Addr} {sl38 : Array (Option Value)}
    {f39 : Addr} {oc39 kv39 dc39 pm39 cd39 ct39 : Value} {od39 an39 : Option Addr} {sl39 : Array (Option Value)}
    {f40 : Addr} {oc40 kv40 dc40 pm40 cd40 ct40 : Value} {od40 an40 : Option Addr} {sl40 : Array (Option Value)}
    {f42 : Addr} {oc42 kv42 dc42 pm42 cd42 ct42 : Value} {od42 an42 : Option Addr} {sl42 : Array (Option Value)}
    {f44 : Addr} {oc44 kv44 dc44 pm44 cd44 ct44 : Value} {od44 an44 : Option Addr} {sl44 : Array (Option Value)}
    {f45 : Addr} {oc45 kv45 dc45 pm45 cd45 ct45 : Value} {od45 an45 : Option Addr} {sl45 : Array (Option Value)}
    {f46 : Addr} {oc46 kv46 dc46 pm46 cd46 ct46 : Value} {od46 an46 : Option Addr} {sl46 : Array (Option Value)}
    {f47 : Addr} {oc47 kv47 dc47 pm47 cd47 ct47 : Value} {od47 an47 : Option Addr} {sl47 : Array (Option Value)}
    {f48 : Addr} {oc48 kv48 dc48 pm48 cd48 ct48 : Value} {od48 an48 : Option Addr} {sl48 : Array (Option Value)}
    {f49 : Addr} {oc49 kv49 dc49 pm49 cd49 ct49 : Value} {od49 an49 : Option Addr} {sl49 : Array (Option Value)}
    {f50 : Addr} {oc50 kv50 dc50 pm50 cd50 ct50 : Value} {od50 an50 : Option Addr} {sl50 : Array (Option Value)}
    {f51 : Addr} {oc51 kv51 dc51 pm51 cd51 ct51 : Value} {od51 an51 : Option Addr} {sl51 : Array (Option Value)}
    {gt_DEEPEST : Nat}
    {gt_LETTERS : Nat}
    {gt_LONGEST_NAME : Nat}
    {gt_MOST_KINDS : Nat}
    {gt_MOST_VALUES : Nat}
    {gt_WIDEST_BOUNDS : Nat}
    {ta_DEEDS : Addr} {te_DEEDS : Nat} {th_DEEDS_0 : Int} {tk_DEEDS_0 : Nat} {th_DEEDS_1 : Int} {tk_DEEDS_1 : Nat} {th_DEEDS_2 : Int} {tk_DEEDS_2 : Nat} {th_DEEDS_3 : Int} {tk_DEEDS_3 : Nat} {th_DEEDS_4 : Int} {tk_DEEDS_4 : Nat} {th_DEEDS_5 : Int} {tk_DEEDS_5 : Nat} {th_DEEDS_6 : Int} {tk_DEEDS_6 : Nat}
    {ta_LENGTHS_statements : Addr} {te_LENGTHS_statements : Nat} {th_LENGTHS_statements_0 : Int} {tk_LENGTHS_statements_0 : Nat} {tv_LENGTHS_statements_0 : Nat} {th_LENGTHS_statements_1 : Int} {tk_LENGTHS_statements_1 : Nat} {tv_LENGTHS_statements_1 : Nat} {th_LENGTHS_statements_2 : Int} {tk_LENGTHS_statements_2 : Nat} {tv_LENGTHS_statements_2 : Nat} {th_LENGTHS_statements_3 : Int} {tk_LENGTHS_statements_3 : Nat} {tv_LENGTHS_statements_3 : Nat} {th_LENGTHS_statements_4 : Int} {tk_LENGTHS_statements_4 : Nat} {tv_LENGTHS_statements_4 : Nat} {th_LENGTHS_statements_5 : Int} {tk_LENGTHS_statements_5 : Nat} {tv_LENGTHS_statements_5 : Nat}
    {ta_LENGTHS_terms : Addr} {te_LENGTHS_terms : Nat} {th_LENGTHS_terms_0 : Int} {tk_LENGTHS_terms_0 : Nat} {tv_LENGTHS_terms_0 : Nat} {th_LENGTHS_terms_1 : Int} {tk_LENGTHS_terms_1 : Nat} {tv_LENGTHS_terms_1 : Nat} {th_LENGTHS_terms_2 : Int} {tk_LENGTHS_terms_2 : Nat} {tv_LENGTHS_terms_2 : Nat} {th_LENGTHS_terms_3 : Int} {tk_LENGTHS_terms_3 : Nat} {tv_LENGTHS_terms_3 : Nat} {th_LENGTHS_terms_4 : Int} {tk_LENGTHS_terms_4 : Nat} {tv_LENGTHS_terms_4 : Nat} {th_LENGTHS_terms_5 : Int} {tk_LENGTHS_terms_5 : Nat} {tv_LENGTHS_terms_5 : Nat} {th_LENGTHS_terms_6 : Int} {tk_LENGTHS_terms_6 : Nat} {tv_LENGTHS_terms_6 : Nat}
    (ac4 : PySem.W.nsIn K mainGlobals "Names" = some (some (.ref g4)))
    (a1 : PySem.W.nsIn K mainGlobals "is_read_of_put" = some (some (.ref f1)))
    (l1 : K.lookup f1 = some ⟨oc1, od1, .func (fO "is_read_of_put" "is_read_of_put" fx .none kv1 dc1 pm1 an1 cd1 ct1), sl1⟩)
    (c1 : PySem.W.codeIn K cd1 "is_read_of_put" = true)
    (k1 : PySem.W.keepIn K (.ref f1) = true)
    (a2 : PySem.W.nsIn K mainGlobals "hit" = some (some (.ref f2)))
    (l2 : K.lookup f2 = some ⟨oc2, od2, .func (fO "hit" "hit" Fx .none kv2 dc2 pm2 an2 cd2 ct2), sl2⟩)
    (c2 : PySem.W.codeIn K cd2 "hit" = true)
    (k2 : PySem.W.keepIn K (.ref f2) = true)
    (a3 : PySem.W.nsIn K mainGlobals "miss" = some (some (.ref f3)))
    (l3 : K.lookup f3 = some ⟨oc3, od3, .func (fO "miss" "miss" fy .none kv3 dc3 pm3 an3 cd3 ct3), sl3⟩)
    (c3 : PySem.W.codeIn K cd3 "miss" = true)
    (k3 : PySem.W.keepIn K (.ref f3) = true)
    (a4 : PySem.W.nsIn K mainGlobals "need" = some (some (.ref f4)))
    (l4 : K.lookup f4 = some ⟨oc4, od4, .func (fO "need" "need" Fy .none kv4 dc4 pm4 an4 cd4 ct4), sl4⟩)
    (c4 : PySem.W.codeIn K cd4 "need" = true)
    (k4 : PySem.W.keepIn K (.ref f4) = true)
    (a5 : PySem.W.nsIn K mainGlobals "is_whole" = some (some (.ref f5)))
    (l5 : K.lookup f5 = some ⟨oc5, od5, .func (fO "is_whole" "is_whole" Fz .none kv5 dc5 pm5 an5 cd5 ct5), sl5⟩)
    (c5 : PySem.W.codeIn K cd5 "is_whole" = true)
    (k5 : PySem.W.keepIn K (.ref f5) = true)
    (a6 : PySem.W.nsIn K mainGlobals "is_fraction" = some (some (.ref f6)))
    (l6 : K.lookup f6 = some ⟨oc6, od6, .func (fO "is_fraction" "is_fraction" Eg .none kv6 dc6 pm6 an6 cd6 ct6), sl6⟩)
    (c6 : PySem.W.codeIn K cd6 "is_fraction" = true)
    (k6 : PySem.W.keepIn K (.ref f6) = true)
    (a7 : PySem.W.nsIn K mainGlobals "common_divisor" = some (some (.ref f7)))
    (l7 : K.lookup f7 = some ⟨oc7, od7, .func (fO "common_divisor" "common_divisor" fg .none kv7 dc7 pm7 an7 cd7 ct7), sl7⟩)
    (c7 : PySem.W.codeIn K cd7 "common_divisor" = true)
    (k7 : PySem.W.keepIn K (.ref f7) = true)
    (a8 : PySem.W.nsIn K mainGlobals "is_name" = some (some (.ref f8)))
    (l8 : K.lookup f8 = some ⟨oc8, od8, .func (fO "is_name" "is_name" Ga .none kv8 dc8 pm8 an8 cd8 ct8), sl8⟩)
    (c8 : PySem.W.codeIn K cd8 "is_name" = true)
    (k8 : PySem.W.keepIn K (.ref f8) = true)
    (a9 : PySem.W.nsIn K mainGlobals "is_row" = some (some (.ref f9)))
    (l9 : K.lookup f9 = some ⟨oc9, od9, .func (fO "is_row" "is_row" gb .none kv9 dc9 pm9 an9 cd9 ct9), sl9⟩)
    (c9 : PySem.W.codeIn K cd9 "is_row" = true)
    (k9 : PySem.W.keepIn K (.ref f9) = true)
    (a10 : PySem.W.nsIn K mainGlobals "is_kind" = some (some (.ref f10)))
    (l10 : K.lookup f10 = some ⟨oc10, od10, .func (fO "is_kind" "is_kind" Gb .none kv10 dc10 pm10 an10 cd10 ct10), sl10⟩)
    (c10 : PySem.W.codeIn K cd10 "is_kind" = true)
    (k10 : PySem.W.keepIn K (.ref f10) = true)
    (a11 : PySem.W.nsIn K mainGlobals "is_list_of_names" = some (some (.ref f11)))
    (l11 : K.lookup f11 = some ⟨oc11, od11, .func (fO "is_list_of_names" "is_list_of_names" gc .none kv11 dc11 pm11 an11 cd11 ct11), sl11⟩)
    (c11 : PySem.W.codeIn K cd11 "is_list_of_names" = true)
    (k11 : PySem.W.keepIn K (.ref f11) = true)
    (a12 : PySem.W.nsIn K mainGlobals "is_bounded" = some (some (.ref f12)))
    (l12 : K.lookup f12 = some ⟨oc12, od12, .func (fO "is_bounded" "is_bounded" gd .none kv12 dc12 pm12 an12 cd12 ct12), sl12⟩)
    (c12 : PySem.W.codeIn K cd12 "is_bounded" = true)
    (k12 : PySem.W.keepIn K (.ref f12) = true)
    (a13 : PySem.W.nsIn K mainGlobals "is_function" = some (some (.ref f13)))
    (l13 : K.lookup f13 = some ⟨oc13, od13, .func (fO "is_function" "is_function" Gd .none kv13 dc13 pm13 an13 cd13 ct13), sl13⟩)
    (c13 : PySem.W.codeIn K cd13 "is_function" = true)
    (k13 : PySem.W.keepIn K (.ref f13) = true)
    (a14 : PySem.W.nsIn K mainGlobals "check_wholes" = some (some (.ref f14)))
    (l14 : K.lookup f14 = some ⟨oc14, od14, .func (fO "check_wholes" "check_wholes" dk .none kv14 dc14 pm14 an14 cd14 ct14), sl14⟩)
    (c14 : PySem.W.codeIn K cd14 "check_wholes" = true)
    (k14 : PySem.W.keepIn K (.ref f14) = true)
    (a15 : PySem.W.nsIn K mainGlobals "check_functions" = some (some (.ref f15)))
    (l15 : K.lookup f15 = some ⟨oc15, od15, .func (fO "check_functions" "check_functions" Ge .none kv15 dc15 pm15 an15 cd15 ct15), sl15⟩)
    (c15 : PySem.W.codeIn K cd15 "check_functions" = true)
    (k15 : PySem.W.keepIn K (.ref f15) = true)
    (a16 : PySem.W.nsIn K mainGlobals "check_names" = some (some (.ref f16)))
    (l16 : K.lookup f16 = some ⟨oc16, od16, .func (fO "check_names" "check_names" gf .none kv16 dc16 pm16 an16 cd16 ct16), sl16⟩)
    (c16 : PySem.W.codeIn K cd16 "check_names" = true)
    (k16 : PySem.W.keepIn K (.ref f16) = true)
    (a17 : PySem.W.nsIn K mainGlobals "first_parts" = some (some (.ref f17)))
    (l17 : K.lookup f17 = some ⟨oc17, od17, .func (fO "first_parts" "first_parts" Gf .none kv17 dc17 pm17 an17 cd17 ct17), sl17⟩)
    (c17 : PySem.W.codeIn K cd17 "first_parts" = true)
    (k17 : PySem.W.keepIn K (.ref f17) = true)
    (a18 : PySem.W.nsIn K mainGlobals "check_unlike" = some (some (.ref f18)))
    (l18 : K.lookup f18 = some ⟨oc18, od18, .func (fO "check_unlike" "check_unlike" Gg .none kv18 dc18 pm18 an18 cd18 ct18), sl18⟩)
    (c18 : PySem.W.codeIn K cd18 "check_unlike" = true)
    (k18 : PySem.W.keepIn K (.ref f18) = true)
    (a19 : PySem.W.findIn K (.ref g4) "__init__" = some (some (.ref f19)))
    (i19 : PySem.W.isFn K (.ref f19) = true)
    (l19 : K.lookup f19 = some ⟨oc19, od19, .func (fO "__init__" "Names.__init__" Cz .none kv19 dc19 pm19 an19 cd19 ct19), sl19⟩)
    (c19 : PySem.W.codeIn K cd19 "Names.__init__" = true)
    (k19 : PySem.W.keepIn K (.ref f19) = true)
    (a25 : PySem.W.findIn K (.ref g4) "kind" = some (some (.ref f25)))
    (i25 : PySem.W.isFn K (.ref f25) = true)
    (l25 : K.lookup f25 = some ⟨oc25, od25, .func (fO "kind" "Names.kind" Fg .none kv25 dc25 pm25 an25 cd25 ct25), sl25⟩)
    (c25 : PySem.W.codeIn K cd25 "Names.kind" = true)
    (k25 : PySem.W.keepIn K (.ref f25) = true)
    (a27 : PySem.W.findIn K (.ref g4) "function" = some (some (.ref f27)))
    (i27 : PySem.W.isFn K (.ref f27) = true)
    (l27 : K.lookup f27 = some ⟨oc27, od27, .func (fO "function" "Names.function" fh .none kv27 dc27 pm27 an27 cd27 ct27), sl27⟩)
    (c27 : PySem.W.codeIn K cd27 "Names.function" = true)
    (k27 : PySem.W.keepIn K (.ref f27) = true)
    (a28 : PySem.W.nsIn K mainGlobals "word_of" = some (some (.ref f28)))
    (l28 : K.lookup f28 = some ⟨oc28, od28, .func (fO "word_of" "word_of" gh .none kv28 dc28 pm28 an28 cd28 ct28), sl28⟩)
    (c28 : PySem.W.codeIn K cd28 "word_of" = true)
    (k28 : PySem.W.keepIn K (.ref f28) = true)
    (a29 : PySem.W.nsIn K mainGlobals "kind_of" = some (some (.ref f29)))
    (l29 : K.lookup f29 = some ⟨oc29, od29, .func (fO "kind_of" "kind_of" Fh .none kv29 dc29 pm29 an29 cd29 ct29), sl29⟩)
    (c29 : PySem.W.codeIn K cd29 "kind_of" = true)
    (k29 : PySem.W.keepIn K (.ref f29) = true)
    (a30 : PySem.W.nsIn K mainGlobals "kind_within" = some (some (.ref f30)))
    (l30 : K.lookup f30 = some ⟨oc30, od30, .func (fO "kind_within" "kind_within" Dk .none kv30 dc30 pm30 an30 cd30 ct30), sl30⟩)
    (c30 : PySem.W.codeIn K cd30 "kind_within" = true)
    (k30 : PySem.W.keepIn K (.ref f30) = true)
    (a31 : PySem.W.nsIn K mainGlobals "check_kinds" = some (some (.ref f31)))
    (l31 : K.lookup f31 = some ⟨oc31, od31, .func (fO "check_kinds" "check_kinds" Dd .none kv31 dc31 pm31 an31 cd31 ct31), sl31⟩)
    (c31 : PySem.W.codeIn K cd31 "check_kinds" = true)
    (k31 : PySem.W.keepIn K (.ref f31) = true)
    (a32 : PySem.W.nsIn K mainGlobals "kind_of_number" = some (some (.ref f32)))
    (l32 : K.lookup f32 = some ⟨oc32, od32, .func (fO "kind_of_number" "kind_of_number" Gh .none kv32 dc32 pm32 an32 cd32 ct32), sl32⟩)
    (c32 : PySem.W.codeIn K cd32 "kind_of_number" = true)
    (k32 : PySem.W.keepIn K (.ref f32) = true)
    (a33 : PySem.W.nsIn K mainGlobals "kind_of_unknown" = some (some (.ref f33)))
    (l33 : K.lookup f33 = some ⟨oc33, od33, .func (fO "kind_of_unknown" "kind_of_unknown" Eh .none kv33 dc33 pm33 an33 cd33 ct33), sl33⟩)
    (c33 : PySem.W.codeIn K cd33 "kind_of_unknown" = true)
    (k33 : PySem.W.keepIn K (.ref f33) = true)
    (a34 : PySem.W.nsIn K mainGlobals "kind_of_weigh" = some (some (.ref f34)))
    (l34 : K.lookup f34 = some ⟨oc34, od34, .func (fO "kind_of_weigh" "kind_of_weigh" Ei .none kv34 dc34 pm34 an34 cd34 ct34), sl34⟩)
    (c34 : PySem.W.codeIn K cd34 "kind_of_weigh" = true)
    (k34 : PySem.W.keepIn K (.ref f34) = true)
    (a35 : PySem.W.nsIn K mainGlobals "kind_of_plus" = some (some (.ref f35)))
    (l35 : K.lookup f35 = some ⟨oc35, od35, .func (fO "kind_of_plus" "kind_of_plus" ej .none kv35 dc35 pm35 an35 cd35 ct35), sl35⟩)
    (c35 : PySem.W.codeIn K cd35 "kind_of_plus" = true)
    (k35 : PySem.W.keepIn K (.ref f35) = true)
    (a36 : PySem.W.nsIn K mainGlobals "kind_of_call" = some (some (.ref f36)))
    (l36 : K.lookup f36 = some ⟨oc36, od36, .func (fO "kind_of_call" "kind_of_call" de .none kv36 dc36 pm36 an36 cd36 ct36), sl36⟩)
    (c36 : PySem.W.codeIn K cd36 "kind_of_call" = true)
    (k36 : PySem.W.keepIn K (.ref f36) = true)
    (a37 : PySem.W.nsIn K mainGlobals "kind_of_read" = some (some (.ref f37)))
    (l37 : K.lookup f37 = some ⟨oc37, od37, .func (fO "kind_of_read" "kind_of_read" Ej .none kv37 dc37 pm37 an37 cd37 ct37), sl37⟩)
    (c37 : PySem.W.codeIn K cd37 "kind_of_read" = true)
    (k37 : PySem.W.keepIn K (.ref f37) = true)
    (a38 : PySem.W.nsIn K mainGlobals "kind_of_put" = some (some (.ref f38)))
    (l38 : K.lookup f38 = some ⟨oc38, od38, .func (fO "kind_of_put" "kind_of_put" Ek .none kv38 dc38 pm38 an38 cd38 ct38), sl38⟩)
    (c38 : PySem.W.codeIn K cd38 "kind_of_put" = true)
    (k38 : PySem.W.keepIn K (.ref f38) = true)
    (a39 : PySem.W.nsIn K mainGlobals "check_statement" = some (some (.ref f39)))
    (l39 : K.lookup f39 = some ⟨oc39, od39, .func (fO "check_statement" "check_statement" Fi .none kv39 dc39 pm39 an39 cd39 ct39), sl39⟩)
    (c39 : PySem.W.codeIn K cd39 "check_statement" = true)
    (k39 : PySem.W.keepIn K (.ref f39) = true)
    (a40 : PySem.W.nsIn K mainGlobals "check_within" = some (some (.ref f40)))
    (l40 : K.lookup f40 = some ⟨oc40, od40, .func (fO "check_within" "check_within" dt .none kv40 dc40 pm40 an40 cd40 ct40), sl40⟩)
    (c40 : PySem.W.codeIn K cd40 "check_within" = true)
    (k40 : PySem.W.keepIn K (.ref f40) = true)
    (a42 : PySem.W.nsIn K mainGlobals "check_atom" = some (some (.ref f42)))
    (l42 : K.lookup f42 = some ⟨oc42, od42, .func (fO "check_atom" "check_atom" Dt .none kv42 dc42 pm42 an42 cd42 ct42), sl42⟩)
    (c42 : PySem.W.codeIn K cd42 "check_atom" = true)
    (k42 : PySem.W.keepIn K (.ref f42) = true)
    (a44 : PySem.W.nsIn K mainGlobals "_law_stream" = some (some (.ref f44)))
    (l44 : K.lookup f44 = some ⟨oc44, od44, .func (fO "_law_stream" "_law_stream" De .none kv44 dc44 pm44 an44 cd44 ct44), sl44⟩)
    (c44 : PySem.W.codeIn K cd44 "_law_stream" = true)
    (k44 : PySem.W.keepIn K (.ref f44) = true)
    (a45 : PySem.W.nsIn K mainGlobals "_law_draw" = some (some (.ref f45)))
    (l45 : K.lookup f45 = some ⟨oc45, od45, .func (fO "_law_draw" "_law_draw" gi .none kv45 dc45 pm45 an45 cd45 ct45), sl45⟩)
    (c45 : PySem.W.codeIn K cd45 "_law_draw" = true)
    (k45 : PySem.W.keepIn K (.ref f45) = true)
    (a46 : PySem.W.nsIn K mainGlobals "_law_fraction" = some (some (.ref f46)))
    (l46 : K.lookup f46 = some ⟨oc46, od46, .func (fO "_law_fraction" "_law_fraction" El .none kv46 dc46 pm46 an46 cd46 ct46), sl46⟩)
    (c46 : PySem.W.codeIn K cd46 "_law_fraction" = true)
    (k46 : PySem.W.keepIn K (.ref f46) = true)
    (a47 : PySem.W.nsIn K mainGlobals "_law_term" = some (some (.ref f47)))
    (l47 : K.lookup f47 = some ⟨oc47, od47, .func (fO "_law_term" "_law_term" df .none kv47 dc47 pm47 an47 cd47 ct47), sl47⟩)
    (c47 : PySem.W.codeIn K cd47 "_law_term" = true)
    (k47 : PySem.W.keepIn K (.ref f47) = true)
    (a48 : PySem.W.nsIn K mainGlobals "_law_array" = some (some (.ref f48)))
    (l48 : K.lookup f48 = some ⟨oc48, od48, .func (fO "_law_array" "_law_array" Dl .none kv48 dc48 pm48 an48 cd48 ct48), sl48⟩)
    (c48 : PySem.W.codeIn K cd48 "_law_array" = true)
    (k48 : PySem.W.keepIn K (.ref f48) = true)
    (a49 : PySem.W.nsIn K mainGlobals "_law_read" = some (some (.ref f49)))
    (l49 : K.lookup f49 = some ⟨oc49, od49, .func (fO "_law_read" "_law_read" dm .none kv49 dc49 pm49 an49 cd49 ct49), sl49⟩)
    (c49 : PySem.W.codeIn K cd49 "_law_read" = true)
    (k49 : PySem.W.keepIn K (.ref f49) = true)
    (a50 : PySem.W.nsIn K mainGlobals "_law_is" = some (some (.ref f50)))
    (l50 : K.lookup f50 = some ⟨oc50, od50, .func (fO "_law_is" "_law_is" Em .none kv50 dc50 pm50 an50 cd50 ct50), sl50⟩)
    (c50 : PySem.W.codeIn K cd50 "_law_is" = true)
    (k50 : PySem.W.keepIn K (.ref f50) = true)
    (a51 : PySem.W.nsIn K mainGlobals "law" = some (some (.ref f51)))
    (l51 : K.lookup f51 = some ⟨oc51, od51, .func (fO "law" "law" Cs .none kv51 dc51 pm51 an51 cd51 ct51), sl51⟩)
    (c51 : PySem.W.codeIn K cd51 "law" = true)
    (k51 : PySem.W.keepIn K (.ref f51) = true)
    (gg_DEEPEST : PySem.W.nsIn K mainGlobals "DEEPEST" = some (some (.int 12 gt_DEEPEST)))
    (gg_LETTERS : PySem.W.nsIn K mainGlobals "LETTERS" = some (some (.str (Str.ofString "abcdefghijklmnopqrstuvwxyz") gt_LETTERS)))
    (gg_LONGEST_NAME : PySem.W.nsIn K mainGlobals "LONGEST_NAME" = some (some (.int 8 gt_LONGEST_NAME)))
    (gg_MOST_KINDS : PySem.W.nsIn K mainGlobals "MOST_KINDS" = some (some (.int 3 gt_MOST_KINDS)))
    (gg_MOST_VALUES : PySem.W.nsIn K mainGlobals "MOST_VALUES" = some (some (.int 3600 gt_MOST_VALUES)))
    (gg_WIDEST_BOUNDS : PySem.W.nsIn K mainGlobals "WIDEST_BOUNDS" = some (some (.int 60 gt_WIDEST_BOUNDS)))
    (gg_DEEDS : PySem.W.nsIn K mainGlobals "DEEDS" = some (some (.ref ta_DEEDS)))
    (gl_DEEDS : K.lookup ta_DEEDS = some ⟨.type "dict", none, .dict #[⟨th_DEEDS_0, .str (Str.ofString "number") tk_DEEDS_0, .ref f32⟩, ⟨th_DEEDS_1, .str (Str.ofString "unknown") tk_DEEDS_1, .ref f33⟩, ⟨th_DEEDS_2, .str (Str.ofString "weigh") tk_DEEDS_2, .ref f34⟩, ⟨th_DEEDS_3, .str (Str.ofString "plus") tk_DEEDS_3, .ref f35⟩, ⟨th_DEEDS_4, .str (Str.ofString "call") tk_DEEDS_4, .ref f36⟩, ⟨th_DEEDS_5, .str (Str.ofString "read") tk_DEEDS_5, .ref f37⟩, ⟨th_DEEDS_6, .str (Str.ofString "put") tk_DEEDS_6, .ref f38⟩] te_DEEDS, #[]⟩)
    (gm_DEEDS : (ta_DEEDS == sysModules) = false)
    (gg_LENGTHS_statements : PySem.W.nsIn K mainGlobals "LENGTHS_statements" = some (some (.ref ta_LENGTHS_statements)))
    (gl_LENGTHS_statements : K.lookup ta_LENGTHS_statements = some ⟨.type "dict", none, .dict #[⟨th_LENGTHS_statements_0, .str (Str.ofString "atmost") tk_LENGTHS_statements_0, .int 3 tv_LENGTHS_statements_0⟩, ⟨th_LENGTHS_statements_1, .str (Str.ofString "below") tk_LENGTHS_statements_1, .int 3 tv_LENGTHS_statements_1⟩, ⟨th_LENGTHS_statements_2, .str (Str.ofString "same") tk_LENGTHS_statements_2, .int 3 tv_LENGTHS_statements_2⟩, ⟨th_LENGTHS_statements_3, .str (Str.ofString "not") tk_LENGTHS_statements_3, .int 2 tv_LENGTHS_statements_3⟩, ⟨th_LENGTHS_statements_4, .str (Str.ofString "and") tk_LENGTHS_statements_4, .int 2 tv_LENGTHS_statements_4⟩, ⟨th_LENGTHS_statements_5, .str (Str.ofString "or") tk_LENGTHS_statements_5, .int 2 tv_LENGTHS_statements_5⟩] te_LENGTHS_statements, #[]⟩)
    (gm_LENGTHS_statements : (ta_LENGTHS_statements == sysModules) = false)
    (gg_LENGTHS_terms : PySem.W.nsIn K mainGlobals "LENGTHS_terms" = some (some (.ref ta_LENGTHS_terms)))
    (gl_LENGTHS_terms : K.lookup ta_LENGTHS_terms = some ⟨.type "dict", none, .dict #[⟨th_LENGTHS_terms_0, .str (Str.ofString "number") tk_LENGTHS_terms_0, .int 2 tv_LENGTHS_terms_0⟩, ⟨th_LENGTHS_terms_1, .str (Str.ofString "unknown") tk_LENGTHS_terms_1, .int 2 tv_LENGTHS_terms_1⟩, ⟨th_LENGTHS_terms_2, .str (Str.ofString "weigh") tk_LENGTHS_terms_2, .int 3 tv_LENGTHS_terms_2⟩, ⟨th_LENGTHS_terms_3, .str (Str.ofString "plus") tk_LENGTHS_terms_3, .int 2 tv_LENGTHS_terms_3⟩, ⟨th_LENGTHS_terms_4, .str (Str.ofString "call") tk_LENGTHS_terms_4, .int 3 tv_LENGTHS_terms_4⟩, ⟨th_LENGTHS_terms_5, .str (Str.ofString "read") tk_LENGTHS_terms_5, .int 3 tv_LENGTHS_terms_5⟩, ⟨th_LENGTHS_terms_6, .str (Str.ofString "put") tk_LENGTHS_terms_6, .int 4 tv_LENGTHS_terms_6⟩] te_LENGTHS_terms, #[]⟩)
    (gm_LENGTHS_terms : (ta_LENGTHS_terms == sysModules) = false)
    (pg4 : PySem.W.plainGet K g4 Str.empty = true)
    (hd4 : PySem.W.hasDictIn K g4 = true)
    (po4 : PySem.W.plainOver K g4 = true)
    (sa4 : PySem.W.findIn K (.ref g4) "__setattr__" = some (some (.builtin "object.__setattr__")))
    (na_Names_arrays : PySem.W.findIn K (.ref g4) "arrays" = some none)
    (na_Names_deeds : PySem.W.findIn K (.ref g4) "deeds" = some none)
    (na_Names_functions : PySem.W.findIn K (.ref g4) "functions" = some none)
    (na_Names_limits : PySem.W.findIn K (.ref g4) "limits" = some none)
    (na_Names_numbers : PySem.W.findIn K (.ref g4) "numbers" = some none)
    (na_Names_things : PySem.W.findIn K (.ref g4) "things" = some none)
    (na_Names_unknowns : PySem.W.findIn K (.ref g4) "unknowns" = some none)
    (na_Names_wholes : PySem.W.findIn K (.ref g4) "wholes" = some none)
    (mk4 : PySem.W.makesIn K g4 = true)
    (kc4 : PySem.W.keepIn K (.ref g4) = true)
    (z_abs : PySem.W.nsIn K mainGlobals "abs" = some none)
    (z_all : PySem.W.nsIn K mainGlobals "all" = some none)
    (z_bool : PySem.W.nsIn K mainGlobals "bool" = some none)
    (z_int : PySem.W.nsIn K mainGlobals "int" = some none)
    (z_isinstance : PySem.W.nsIn K mainGlobals "isinstance" = some none)
    (z_len : PySem.W.nsIn K mainGlobals "len" = some none)
    (z_list : PySem.W.nsIn K mainGlobals "list" = some none)
    (z_range : PySem.W.nsIn K mainGlobals "range" = some none)
    (z_set : PySem.W.nsIn K mainGlobals "set" = some none)
    (z_str : PySem.W.nsIn K mainGlobals "str" = some none)
    (z_tuple : PySem.W.nsIn K mainGlobals "tuple" = some none)
    (z_zip : PySem.W.nsIn K mainGlobals "zip" = some none)
    : ∃ (ad : Nat → Addr) (fd : Nat → FuncData) (cf : Nat → Addr), Txt K mg fd ⟨w, cf, ad⟩ ∧ ∀ (s : Shared) (u : Value), BindsTo s (fd 51) ⟨[u], []⟩ [("_law_script", u)] := by
  refine ⟨(si [0, f1, f2, f3, f4, f5, f6, f7, f8, f9, f10, f11, f12, f13, f14, f15, f16, f17, f18, f19, 0, 0, 0, 0, 0, f25, 0, f27, f28, f29, f30, f31, f32, f33, f34, f35, f36, f37, f38, f39, f40, 0, f42, 0, f44, f45, f46, f47, f48, f49, f50, f51]), (fun i => ([default, fO "is_read_of_put" "is_read_of_put" fx .none kv1 dc1 pm1 an1 cd1 ct1, fO "hit" "hit" Fx .none kv2 dc2 pm2 an2 cd2 ct2, fO "miss" "miss" fy .none kv3 dc3 pm3 an3 cd3 ct3, fO "need" "need" Fy .none kv4 dc4 pm4 an4 cd4 ct4, fO "is_whole" "is_whole" Fz .none kv5 dc5 pm5 an5 cd5 ct5, fO "is_fraction" "is_fraction" Eg .none kv6 dc6 pm6 an6 cd6 ct6, fO "common_divisor" "common_divisor" fg .none kv7 dc7 pm7 an7 cd7 ct7, fO "is_name" "is_name" Ga .none kv8 dc8 pm8 an8 cd8 ct8, fO "is_row" "is_row" gb .none kv9 dc9 pm9 an9 cd9 ct9, fO "is_kind" "is_kind" Gb .none kv10 dc10 pm10 an10 cd10 ct10, fO "is_list_of_names" "is_list_of_names" gc .none kv11 dc11 pm11 an11 cd11 ct11, fO "is_bounded" "is_bounded" gd .none kv12 dc12 pm12 an12 cd12 ct12, fO "is_function" "is_function" Gd .none kv13 dc13 pm13 an13 cd13 ct13, fO "check_wholes" "check_wholes" dk .none kv14 dc14 pm14 an14 cd14 ct14, fO "check_functions" "check_functions" Ge .none kv15 dc15 pm15 an15 cd15 ct15, fO "check_names" "check_names" gf .none kv16 dc16 pm16 an16 cd16 ct16, fO "first_parts" "first_parts" Gf .none kv17 dc17 pm17 an17 cd17 ct17, fO "check_unlike" "check_unlike" Gg .none kv18 dc18 pm18 an18 cd18 ct18, fO "__init__" "Names.__init__" Cz .none kv19 dc19 pm19 an19 cd19 ct19, default, default, default, default, default, fO "kind" "Names.kind" Fg .none kv25 dc25 pm25 an25 cd25 ct25, default, fO "function" "Names.function" fh .none kv27 dc27 pm27 an27 cd27 ct27, fO "word_of" "word_of" gh .none kv28 dc28 pm28 an28 cd28 ct28, fO "kind_of" "kind_of" Fh .none kv29 dc29 pm29 an29 cd29 ct29, fO "kind_within" "kind_within" Dk .none kv30 dc30 pm30 an30 cd30 ct30, fO "check_kinds" "check_kinds" Dd .none kv31 dc31 pm31 an31 cd31 ct31, fO "kind_of_number" "kind_of_number" Gh .none kv32 dc32 pm32 an32 cd32 ct32, fO "kind_of_unknown" "kind_of_unknown" Eh .none kv33 dc33 pm33 an33 cd33 ct33, fO "kind_of_weigh" "kind_of_weigh" Ei .none kv34 dc34 pm34 an34 cd34 ct34, fO "kind_of_plus" "kind_of_plus" ej .none kv35 dc35 pm35 an35 cd35 ct35, fO "kind_of_call" "kind_of_call" de .none kv36 dc36 pm36 an36 cd36 ct36, fO "kind_of_read" "kind_of_read" Ej .none kv37 dc37 pm37 an37 cd37 ct37, fO "kind_of_put" "kind_of_put" Ek .none kv38 dc38 pm38 an38 cd38 ct38, fO "check_statement" "check_statement" Fi .none kv39 dc39 pm39 an39 cd39 ct39, fO "check_within" "check_within" dt .none kv40 dc40 pm40 an40 cd40 ct40, default, fO "check_atom" "check_atom" Dt .none kv42 dc42 pm42 an42 cd42 ct42, default, fO "_law_stream" "_law_stream" De .none kv44 dc44 pm44 an44 cd44 ct44, fO "_law_draw" "_law_draw" gi .none kv45 dc45 pm45 an45 cd45 ct45, fO "_law_fraction" "_law_fraction" El .none kv46 dc46 pm46 an46 cd46 ct46, fO "_law_term" "_law_term" df .none kv47 dc47 pm47 an47 cd47 ct47, fO "_law_array" "_law_array" Dl .none kv48 dc48 pm48 an48 cd48 ct48, fO "_law_read" "_law_read" dm .none kv49 dc49 pm49 an49 cd49 ct49, fO "_law_is" "_law_is" Em .none kv50 dc50 pm50 an50 cd50 ct50, fO "law" "law" Cs .none kv51 dc51 pm51 an51 cd51 ct51] : List FuncData).getD i default), (si [0, 0, 0, 0, g4]), ⟨
    (Av (st := fx) l1 c1 k1),
    (PySem.W.mg_of X G a1),
    (agw),
    (Av (st := Fx) l2 c2 k2),
    (PySem.W.mg_of X G a2),
    (agx),
    (Av (st := fy) l3 c3 k3),
    (PySem.W.mg_of X G a3),
    (agy),
    (Av (st := Fy) l4 c4 k4),
    (PySem.W.mg_of X G a4),
    (agz),
    (Av (st := Fz) l5 c5 k5),
    (PySem.W.mg_of X G a5),
    (aha),
    (Av (st := Eg) l6 c6 k6),
    (PySem.W.mg_of X G a6),
    (ahb),
    (Av (st := fg) l7 c7 k7),
    (PySem.W.mg_of X G a7),
    (ahc),
    (Av (st := Ga) l8 c8 k8),
    (PySem.W.mg_of X G a8),
    (ahd),
    (Av (st := gb) l9 c9 k9),
    (PySem.W.mg_of X G a9),
    (ahe),
    (Av (st := Gb) l10 c10 k10),
    (PySem.W.mg_of X G a10),
    (ahf),
    (Av (st := gc) l11 c11 k11),
    (PySem.W.mg_of X G a11),
    (ahg),
    (Av (st := gd) l12 c12 k12),
    (PySem.W.mg_of X G a12),
    (ahh),
    (Av (st := Gd) l13 c13 k13),
    (PySem.W.mg_of X G a13),
    (ahi),
    (Av (st := dk) l14 c14 k14),
    (PySem.W.mg_of X G a14),
    (ahj),
    (Av (st := Ge) l15 c15 k15),
    (PySem.W.mg_of X G a15),
    (ahk),
    (Av (st := gf) l16 c16 k16),
    (PySem.W.mg_of X G a16),
    (ahl),
    (Av (st := Gf) l17 c17 k17),
    (PySem.W.mg_of X G a17),
    (ahm),
    (Av (st := Gg) l18 c18 k18),
    (PySem.W.mg_of X G a18),
    (ahn),
    (Av (st := Cz) l19 c19 k19),
    (aho),
    (Av (st := Fg) l25 c25 k25),
    (ahp),
    (Av (st := fh) l27 c27 k27),
    (ahq),
    (Av (st := gh) l28 c28 k28),
    (PySem.W.mg_of X G a28),
    (ahr),
    (Av (st := Fh) l29 c29 k29),
    (PySem.W.mg_of X G a29),
    (ahs),
    (Av (st := Dk) l30 c30 k30),
    (PySem.W.mg_of X G a30),
    (aht),
    (Av (st := Dd) l31 c31 k31),
    (PySem.W.mg_of X G a31),
    (ahu),
    (Av (st := Gh) l32 c32 k32),
    (PySem.W.mg_of X G a32),
    (ahv),
    (Av (st := Eh) l33 c33 k33),
    (PySem.W.mg_of X G a33),
    (ahw),
    (Av (st := Ei) l34 c34 k34),
    (PySem.W.mg_of X G a34),
    (ahx),
    (Av (st := ej) l35 c35 k35),
    (PySem.W.mg_of X G a35),
    (ahy),
    (Av (st := de) l36 c36 k36),
    (PySem.W.mg_of X G a36),
    (ahz),
    (Av (st := Ej) l37 c37 k37),
    (PySem.W.mg_of X G a37),
    (aia),
    (Av (st := Ek) l38 c38 k38),
    (PySem.W.mg_of X G a38),
    (aib),
    (Av (st := Fi) l39 c39 k39),
    (PySem.W.mg_of X G a39),
    (aic),
    (Av (st := dt) l40 c40 k40),
    (PySem.W.mg_of X G a40),
    (aid),
    (Av (st := Dt) l42 c42 k42),
    (PySem.W.mg_of X G a42),
    (aie),
    (Av (st := De) l44 c44 k44),
    (PySem.W.mg_of X G a44),
    (aif),
    (Av (st := gi) l45 c45 k45),
    (PySem.W.mg_of X G a45),
    (aih),
    (Av (st := El) l46 c46 k46),
    (PySem.W.mg_of X G a46),
    (aii),
    (Av (st := df) l47 c47 k47),
    (PySem.W.mg_of X G a47),
    (aij),
    (Av (st := Dl) l48 c48 k48),
    (PySem.W.mg_of X G a48),
    (aik),
    (Av (st := dm) l49 c49 k49),
    (PySem.W.mg_of X G a49),
    (ail),
    (Av (st := Em) l50 c50 k50),
    (PySem.W.mg_of X G a50),
    (aim),
    (Av (st := Cs) l51 c51 k51),
    (PySem.W.mg_of X G a51),
    (ain),
    (⟨_, PySem.W.mg_of X G gg_DEEPEST, ⟨_, rfl⟩⟩),
    (⟨_, PySem.W.mg_of X G gg_LETTERS, ⟨_, rfl⟩⟩),
    (⟨_, PySem.W.mg_of X G gg_LONGEST_NAME, ⟨_, rfl⟩⟩),
    (⟨_, PySem.W.mg_of X G gg_MOST_KINDS, ⟨_, rfl⟩⟩),
    (⟨_, PySem.W.mg_of X G gg_MOST_VALUES, ⟨_, rfl⟩⟩),
    (⟨_, PySem.W.mg_of X G gg_WIDEST_BOUNDS, ⟨_, rfl⟩⟩),
    (⟨_, _, _, _, PySem.W.mg_of X G gg_DEEDS, gl_DEEDS, ⟨rfl, rfl, rfl⟩, rfl, gm_DEEDS, .cons rfl rfl (.cons rfl rfl (.cons rfl rfl (.cons rfl rfl (.cons rfl rfl (.cons rfl rfl (.cons rfl rfl (.nil)))))))⟩),
    (⟨_, _, _, _, PySem.W.mg_of X G gg_LENGTHS_statements, gl_LENGTHS_statements, ⟨rfl, rfl, rfl⟩, rfl, gm_LENGTHS_statements, .cons rfl ⟨_, rfl⟩ (.cons rfl ⟨_, rfl⟩ (.cons rfl ⟨_, rfl⟩ (.cons rfl ⟨_, rfl⟩ (.cons rfl ⟨_, rfl⟩ (.cons rfl ⟨_, rfl⟩ (.nil))))))⟩),
    (⟨_, _, _, _, PySem.W.mg_of X G gg_LENGTHS_terms, gl_LENGTHS_terms, ⟨rfl, rfl, rfl⟩, rfl, gm_LENGTHS_terms, .cons rfl ⟨_, rfl⟩ (.cons rfl ⟨_, rfl⟩ (.cons rfl ⟨_, rfl⟩ (.cons rfl ⟨_, rfl⟩ (.cons rfl ⟨_, rfl⟩ (.cons rfl ⟨_, rfl⟩ (.cons rfl ⟨_, rfl⟩ (.nil)))))))⟩),
    (⟨pg4, hd4, po4, sa4⟩),
    (na_Names_arrays),
    (na_Names_deeds),
    (na_Names_functions),
    (na_Names_limits),
    (na_Names_numbers),
    (na_Names_things),
    (na_Names_unknowns),
    (na_Names_wholes),
    (⟨a27, i27, k27⟩),
    (⟨a25, i25, k25⟩),
    (⟨mk4, a19, i19, kc4⟩),
    (PySem.W.mg_of X G ac4),
    (PySem.W.mg_none_of X G z_abs),
    (PySem.W.mg_none_of X G z_all),
    (PySem.W.mg_none_of X G z_bool),
    (PySem.W.mg_none_of X G z_int),
    (PySem.W.mg_none_of X G z_isinstance),
    (PySem.W.mg_none_of X G z_len),
    (PySem.W.mg_none_of X G z_list),
    (PySem.W.mg_none_of X G z_range),
    (PySem.W.mg_none_of X G z_set),
    (PySem.W.mg_none_of X G z_str),
    (PySem.W.mg_none_of X G z_tuple),
    (PySem.W.mg_none_of X G z_zip)⟩, fun s u => .of_eq (agv _ _ _ _ _ _ [u] rfl)⟩
def mr (FF n : Nat) : List D → Sto → Res D := Bw tab fns FF n 51
theorem walk {n : Nat} {l : PySem.W.OpenLaw} {q : Program} {loose : List Str} {XP : (Str → Option Value) → Heap → Prop} {YP : World → Heap → Prop} {d : DefRec} {K : Params → PySem.W.Frag} (hn : l.most = some 63) (hdf : d.params.defaults = []) (hN : d.name = "law") (hr : Room (2 * n) callerA)
    (hY : ∀ (w : World) (h : Heap), YP w h → (K w.params).In h)
    (hT : ∀ (w : World) (mg : Str → Option Value) (h : Heap), (K w.params).In h → h.Ns mainGlobals mg → ∃ (ad : Nat → Addr) (fd : Nat → FuncData) (cf : Nat → Addr), Txt (K w.params) mg fd ⟨w, cf, ad⟩ ∧ ∀ (s : Shared) (u : Value), BindsTo s (fd 51) ⟨[u], []⟩ [("_law_script", u)])
    (hm : ∀ ns : List Int, ns.length ≤ 63 → ∃ FF st, mr FF n [.loc 0] [.frz (ns.map D.int)] = .ok (.bl true) st) :
    PySem.W.WalkO q loose XP YP l.row.toRowW d [] (fun f vs => PySem.call f vs) := by
  refine L2.Wx (n := 63) (k := 2 * n) (x := "_law_script") (CX := fun w => CXd l.prog w) (sp := fun w vs H Q E => ∀ cls, ∃ FF, spD (K w.params) cls 1 (mr FF n) vs H Q E) hn (by decide) hdf hr hY ?_ ?_ fun w H s e s' z => Zd H s e s' z
  · intro w mg fa h X G hfa
    obtain ⟨ad, fd, cf, T, hb⟩ := hT w mg h X G
    rw [hN, T.m_law] at hfa
    cases hfa
    refine ⟨fd 51, hb, fun base _ _ => ?_⟩
    have F := fun FF => (Sh (Pr := l.prog) (w := w) (base := base) (FF := FF) (cls := ⟨w, cf, ad⟩) rfl T n).i_law
    exact ⟨fun vs H Q E h => let ⟨FF, h⟩ := h ⟨w, cf, ad⟩; (F FF).len vs H Q E h, fun A outer s H args us vs Q E h1 h2 h3 h4 h => let ⟨FF, h⟩ := h ⟨w, cf, ad⟩; (F FF).run A outer s H args us vs Q E h1 h2 h3 h4 h⟩
  · exact fun w H a ns hl hO hS cls => let ⟨FF, st, e⟩ := hm ns hl; ⟨FF, zd e H a hO hS⟩
end My
namespace My
open PySem L2 DD
local macro_rules | `(tactic| infer_instance) => `(tactic| first
 | with_reducible refine Af ?_ | with_reducible refine ax ?_ | with_reducible refine ah ?_ | with_reducible refine aah ?_ | with_reducible refine aao ?_ | with_reducible refine aap ?_
 | with_reducible refine w_var rfl ?_ | with_reducible refine Ac ?_ | with_reducible refine ab ?_ | with_reducible refine af ?_
 | with_reducible refine ao ?_ | with_reducible refine Zy ?_ | with_reducible refine Au ?_ | with_reducible refine Ee ?_ | with_reducible refine Bj ?_ | with_reducible refine Fw ?_
 | with_reducible refine Bf ?_ | with_reducible refine Bh ?_ | with_reducible refine Bg ?_ | with_reducible refine Dq ?_ | with_reducible refine aal ?_ | with_reducible refine lu ?_ | with_reducible refine Jg ?_ | with_reducible refine abb ?_ | with_reducible refine abc ?_ | with_reducible refine qf ?_ | with_reducible refine aai ?_ | with_reducible refine aaj ?_ | with_reducible refine aak rfl ?_
 | with_reducible refine Jf ?_ | with_reducible refine Cy ?_ | with_reducible refine gz ?_ | with_reducible refine Bb ?_ | with_reducible refine jg ?_ | with_reducible refine aac ?_ | with_reducible refine aad ?_ | with_reducible refine ib ?_ | with_reducible refine aae ?_
 | with_reducible refine w_and ?_ | with_reducible refine w_or ?_ | with_reducible refine w_not ?_ | with_reducible refine Lr ?_ | with_reducible refine zz ?_ | with_reducible refine aab ?_ | with_reducible refine Be ?_ | with_reducible refine Ed ?_ | with_reducible refine zy ?_ | with_reducible refine w_fld ?_ | with_reducible refine Ls ?_ | with_reducible refine w_mk ?_ | with_reducible refine Ia ?_ | with_reducible refine ia ?_ | with_reducible refine Hz ?_ | with_reducible refine Zz ?_ | with_reducible refine aaa ?_
 | with_reducible refine aaf ?_ | with_reducible refine aag ?_ | with_reducible refine aam ?_ | with_reducible refine aan ?_
 | with_reducible refine Gz ?_ | with_reducible refine cz ?_ | with_reducible refine Ha ?_ | with_reducible refine jh ?_ | with_reducible refine ef ?_ | with_reducible refine aas ?_ | with_reducible refine Ly ?_ | with_reducible refine aat ?_ | with_reducible refine Lz ?_ | with_reducible refine qg ?_ | with_reducible refine Hb ?_ | with_reducible refine aaw ?_ | with_reducible refine aax ?_ | with_reducible refine aay ?_
 | with_reducible refine Cg (by decide) ?_ | with_reducible refine bz (by decide) ?_ | with_reducible refine Lx (by decide) ?_ | with_reducible refine lx (by decide) ?_ | with_reducible refine ly (by decide) ?_
 | with_reducible refine Qf ?_ | with_reducible refine aaq ?_ | with_reducible refine fw ?_ | with_reducible refine Bc ?_
 | with_reducible refine ⟨_, rfl, fw ?_⟩ | with_reducible refine ⟨_, rfl, Bc ?_⟩
 | (with_reducible refine And.intro (a := _ < List.length _) (of_decide_eq_true rfl) ?_) | (with_reducible refine And.intro (a := List.length _ ≤ sizeLine) (of_decide_eq_true rfl) ?_))
abbrev W (x : String) : D := .str (Str.ofString x)
def mkE : E := match Hd with | .cons (.set _ e) _ => e | _ => .cst .non
def UNK : List (D × D) := [(W "x", W "num"), (W "y", W "num"), (W "z", W "num"), (W "n", W "num"), (W "a", W "array"), (W "b", W "array")]
def DEE : List (D × D) := [(W "f", .tup [.tup [W "num"], W "num"])]
def FLD : List (Str × D) := [(Str.ofString "numbers", .loc 26), (Str.ofString "wholes", .loc 27), (Str.ofString "things", .loc 28), (Str.ofString "functions", .loc 29), (Str.ofString "arrays", .loc 30), (Str.ofString "limits", .loc 31), (Str.ofString "deeds", .loc 32), (Str.ofString "unknowns", .loc 35)]
def ST0 : List Cell := [.lst [W "x", W "y", W "z"], .lst [.tup [W "n", .int 0, .int 3]], .lst [], .lst [.tup [W "f", .tup [W "num"], W "num"]], .lst [W "a", W "b"], .ins 4 FLD,
 .lst [.bl true, .bl true, .bl true], .lst [.bl true], .lst [.bl true], .lst [.bl true], .lst [], .lst [.bl true, .bl true], .lst [.bl true], .lst [.bl true], .lst [.bl true], .lst [.bl true], .lst [.bl true], .lst [.bl true], .lst [.bl true],
 .lst [W "n"], .lst [W "x", W "y", W "z", W "n"], .lst [W "x", W "y", W "z", W "n"], .lst [W "f"], .lst [W "x", W "y", W "z", W "n", W "f"], .lst [W "x", W "y", W "z", W "n", W "f", W "a", W "b"],
 .lst [W "x", W "y", W "z"], .lst [.tup [W "n", .int 0, .int 3]], .lst [], .lst [.tup [W "f", .tup [W "num"], W "num"]], .lst [W "a", W "b"], .dct [(W "n", .tup [.int 0, .int 3])], .dct DEE, .lst [W "n"], .lst [W "x", W "y", W "z", W "n"], .dct UNK, .dct [], .dct [(W "a", W "array"), (W "b", W "array")]]
theorem aip {FF n : Nat} {X : List D} {env : DD.Env} : aa tab (Bw tab fns FF (n + 5)) mkE env [.frz X] = .ok (.loc 6) (.frz X :: ST0) := by kernel_rfl
section
variable {FF n : Nat} {st : Sto}
abbrev C (FF n : Nat) := Bw tab fns FF n
def Ex (s s' : Sto) : Prop := ∀ (i : Nat) (c : Cell), s[i]? = some c → s'[i]? = some c
theorem Ex.refl (s : Sto) : Ex s s := fun _ _ h => h
theorem Ex.trans {a b c : Sto} (h : Ex a b) (g : Ex b c) : Ex a c := fun i x e => g i x (h i x e)
theorem Ex.app {s m : Sto} : Ex s (s ++ m) := fun i c e => by rw [List.getElem?_append_left (List.getElem?_eq_some_iff.mp e).1]; exact e
theorem Ex.one {s : Sto} {c : Cell} : Ex s (s ++ [c]) := Ex.app
theorem Ex.at {a b : Sto} (h : Ex a b) {i : Nat} {c : Cell} (e : a[i]? = some c) : b[i]? = some c := h i c e
theorem Ex.len {a b : Sto} (h : Ex a b) : a.length ≤ b.length := by
 rcases Nat.eq_zero_or_pos a.length with z | z
 · omega
 · have := h (a.length - 1) _ (List.getElem?_eq_getElem (by omega))
   have := (List.getElem?_eq_some_iff.mp this).1
   omega
def Fq (l : Nat) (s s' : Sto) : Prop := s.length ≤ s'.length ∧ ∀ (i : Nat) (c : Cell), i ≠ l → s[i]? = some c → s'[i]? = some c
theorem Fq.trans {l : Nat} {a b c : Sto} (h : Fq l a b) (g : Fq l b c) : Fq l a c := ⟨Nat.le_trans h.1 g.1, fun i x n e => g.2 i x n (h.2 i x n e)⟩
theorem Ex.fq {l : Nat} {a b : Sto} (h : Ex a b) : Fq l a b := ⟨h.len, fun i x _ e => h i x e⟩
theorem Ex.fin {l : Nat} {a b c : Sto} (h : Ex a b) (g : Fq l b c) (hl : a.length ≤ l) : Ex a c := fun i x e => g.2 i x (by have := (List.getElem?_eq_some_iff.mp e).1; omega) (h i x e)
structure Has (s : Sto) : Prop where
 i : s[6]? = some (.ins 4 FLD)
 d : s[32]? = some (.dct DEE)
 u : s[35]? = some (.dct UNK)
theorem Has.ex {a b : Sto} (h : Has a) (e : Ex a b) : Has b := ⟨e.at h.i, e.at h.d, e.at h.u⟩
theorem aiq {x : Str} {a : D} : C FF (n + 1) 28 [.tup [.str x, a]] st = .ok (.str x) st := by kernel_rfl
theorem Si {x : Str} {a b : D} : C FF (n + 1) 28 [.tup [.str x, a, b]] st = .ok (.str x) st := by kernel_rfl
theorem air {x : Str} {a b c : D} : C FF (n + 1) 28 [.tup [.str x, a, b, c]] st = .ok (.str x) st := by kernel_rfl
theorem ais {x : Str} {r : List D} (h : r.length = 1 ∨ r.length = 2 ∨ r.length = 3) : C FF (n + 1) 28 [.tup (.str x :: r)] st = .ok (.str x) st := by
 match r, h with
 | [a], _ => exact aiq
 | [a, b], _ => exact Si
 | [a, b, c], _ => exact air
def Kc (p q : Int) : Prop := -6 ≤ p ∧ p ≤ 6 ∧ (q = 1 ∨ q = 2 ∧ p % 2 = 1 ∨ q = 3 ∧ p % 3 ≠ 0)
theorem sj {p q : Int} (h : Kc p q) : C (FF + 5) (n + 3) 6 [.tup [.int p, .int q]] st = .ok (.bl true) st := by
 obtain ⟨h1, h2, h⟩ := h
 have : p = -6 ∨ p = -5 ∨ p = -4 ∨ p = -3 ∨ p = -2 ∨ p = -1 ∨ p = 0 ∨ p = 1 ∨ p = 2 ∨ p = 3 ∨ p = 4 ∨ p = 5 ∨ p = 6 := by omega
 rcases h with rfl | ⟨rfl, h⟩ | ⟨rfl, h⟩ <;> rcases this with rfl | rfl | rfl | rfl | rfl | rfl | rfl | rfl | rfl | rfl | rfl | rfl | rfl <;> first | (exfalso; revert h; decide) | kernel_rfl
theorem Sj {kvs : List (D × D)} {k : D} {m : Nat} {Q : D → Sto → Prop} (g : st[m]? = some (.dct kvs)) (hk : Bs k = true) (h : Q ((ay kvs k).getD .non) st) : Wr (mtD .get (.loc m) [k] st) Q := ⟨_, _, by simp only [mtD, Ba, g]; rw [if_pos hk], h⟩
theorem ait : FLD.lookup (Str.ofString "unknowns") = some (.loc 35) := by decide +kernel
theorem aiu : FLD.lookup (Str.ofString "deeds") = some (.loc 32) := by decide +kernel
theorem aiv : FLD.lookup (Str.ofString "kind") = none := by decide +kernel
theorem aiw : FLD.lookup (Str.ofString "function") = none := by decide +kernel
theorem aix (H : Has st) {x : Str} {k : D} (h : ay UNK (.str x) = some k) : Wr (C FF (n + 1) 25 [.loc 6, .str x] st) fun d s => d = k ∧ s = st := by
 refine Bp [some (.loc 6), some (.str x)] (b := Ji) rfl rfl (by decide) rfl ?_
 unfold Ji
 refine Af (Bg (Lr (ib (w_var rfl ⟨.b "str", true, rfl, rfl, fw ?_⟩))))
 refine Fw (w_fld (w_var rfl ⟨6, FLD, .loc 35, rfl, H.i, ait, Qi H.u, ab (w_var rfl (af ?_))⟩))
 refine Sj H.u rfl ?_
 rw [h]
 exact ⟨rfl, rfl⟩
theorem aiy (H : Has st) : Wr (C FF (n + 1) 27 [.loc 6, W "f"] st) fun d s => d = .tup [.tup [W "num"], W "num"] ∧ s = st := by
 refine Bp [some (.loc 6), some (W "f")] (b := jj) rfl rfl (by decide) rfl ?_
 unfold jj
 refine Af (Bg (Lr (ib (w_var rfl ⟨.b "str", true, rfl, rfl, fw ?_⟩))))
 refine Fw (w_fld (w_var rfl ⟨6, FLD, .loc 32, rfl, H.i, aiu, Qi H.d, ab (w_var rfl (af ?_))⟩))
 refine Sj H.d rfl ?_
 exact ⟨rfl, rfl⟩
end
section
variable {FF n : Nat} {st : Sto}
theorem sk {a b : Nat} (h : a = b) : (!decide ((a : Int) = (b : Int))) = false := by subst h; simp
theorem Kd {ts ks : List D} {room : Int} (hl : ts.length = ks.length) (hok : ∀ k ∈ ks, okN 40 k = true) (h : ∀ (i : Nat) (t k : D), ts[i]? = some t → ks[i]? = some k → ∀ s, Has s → Wr (C FF n 30 [.loc 6, t, .int room] s) fun d s' => d = k ∧ Ex s s') (H : Has st) :
    Wr (C FF (n + 1) 31 [.loc 6, .tup ts, .tup ks, .int room] st) fun d s => d = .non ∧ Ex st s := by
  refine Bp [some (.loc 6), some (.tup ts), some (.tup ks), some (.int room), none, none] (b := Jk) rfl rfl (by decide) rfl ?_
  unfold Jk
  refine Af (Bh (Cy (gz (ib (w_var rfl ⟨.b "tuple", true, rfl, rfl, Bc ?_⟩)))))
  refine Bb (Ee (ab (w_var rfl (af (Hb (Ee (ab (w_var rfl (af (Hb (jh ⟨_, rfl, ?_⟩)))))))))))
  rw [sk hl]
  refine Bc (ax (ah (Af ?_)))
  refine abg (ab (w_var rfl (ab (w_var rfl (af ⟨ts, ks, rfl, Nat.le_of_eq hl, ?_⟩)))))
  refine w_walk (fun i env s => (∃ a b, env = [some (.loc 6), some (.tup ts), some (.tup ks), some (.int room), a, b]) ∧ Has s ∧ Ex st s) (fun _ _ _ _ => rfl) _ 0 _ _ ⟨⟨_, _, rfl⟩, H, .refl _⟩ (fun j d hd env s hj => ?_) (fun env s hj => ?_)
  · obtain ⟨⟨a, b, rfl⟩, H1, E1⟩ := hj
    simp only [Ez, List.getElem?_zipWith] at hd
    cases ht : ts[j]? with
    | none => rw [ht] at hd; simp at hd
    | some t =>
      cases hk : ks[j]? with
      | none => rw [ht, hk] at hd; simp at hd
      | some k =>
        rw [ht, hk] at hd
        simp at hd
        subst hd
        refine abh (env' := [some (.loc 6), some (.tup ts), some (.tup ks), some (.int room), some t, some k]) rfl ?_
        refine Af (Bh (Bb (Au (ab (w_var rfl (ab (w_var rfl (ab (w_var rfl (af ?_))))))))))
        refine (h j t k ht hk s H1).imp ?_
        rintro d s2 ⟨rfl, E2⟩
        refine w_var rfl (Ef (hok _ (List.mem_of_getElem? hk)) (hok _ (List.mem_of_getElem? hk)) ⟨_, rfl, ?_⟩)
        rw [decide_eq_true rfl]
        exact Bc (ax (ah (ax ⟨_, rfl, ⟨_, _, rfl⟩, H1.ex E2, E1.trans E2⟩)))
  · obtain ⟨⟨a, b, rfl⟩, H1, E1⟩ := hj
    exact ah (ax ⟨rfl, E1⟩)
abbrev LEN : List (Str × D) := [(Str.ofString "number", .int 2), (Str.ofString "unknown", .int 2), (Str.ofString "weigh", .int 3), (Str.ofString "plus", .int 2), (Str.ofString "call", .int 3), (Str.ofString "read", .int 3), (Str.ofString "put", .int 4)]
abbrev DED : List (Str × Nat) := [(Str.ofString "number", 32), (Str.ofString "unknown", 33), (Str.ofString "weigh", 34), (Str.ofString "plus", 35), (Str.ofString "call", 36), (Str.ofString "read", 37), (Str.ofString "put", 38)]
theorem Fj {x : Str} {r : List D} {l i : Nat} {room : Int} {Q : D → Sto → Prop} (hin : decide (x ∈ LEN.map (·.1)) = true) (hv : LEN.lookup x = some (.int (l + 1 : Nat))) (hf : DED.lookup x = some i) (hl : r.length = l) (h3 : r.length = 1 ∨ r.length = 2 ∨ r.length = 3) (hc : ([32, 33, 34, 35, 36, 37, 38] : List Nat).contains i = true) (hr : 1 ≤ room)
    (h : Wr (C FF (n + 1) i [.loc 6, .tup (.str x :: r), .int (room - 1)] (st ++ [.fnc i])) Q) : Wr (C FF (n + 2) 30 [.loc 6, .tup (.str x :: r), .int room] st) Q := by
  refine Bp [some (.loc 6), some (.tup (.str x :: r)), some (.int room), none, none] (b := jk) rfl rfl (by decide) rfl ?_
  unfold jk
  refine Af (Bf (Au (ab (w_var rfl (af (By (ais h3) ⟨of_decide_eq_true rfl, ah (Af (Bh ?_))⟩))))))
  refine Cy (Bb (w_var rfl (Ac (ef ⟨_, rfl, ?_⟩))))
  rw [decide_eq_false (by omega : ¬ room < 1)]
  refine Bc (Cy (Qj (w_var rfl ⟨x, rfl, ?_⟩)))
  have hin2 : decide (x ∈ [Str.ofString "number", Str.ofString "unknown", Str.ofString "weigh", Str.ofString "plus", Str.ofString "call", Str.ofString "read", Str.ofString "put"]) = true := hin
  rw [hin2]
  refine Bc (Bb (Ee (ab (w_var rfl (af (Hb (qj (w_var rfl ⟨x, _, rfl, hv, jh ⟨_, rfl, ?_⟩⟩))))))))
  rw [sk (by simp [hl])]
  refine Bc (ax (ah (Af (Bf (abd (w_var rfl ⟨x, i, rfl, hf, of_decide_eq_true rfl, ah (Af (Bg (abe (w_var rfl ⟨_, i, rfl, by simp, hc, ?_⟩))))⟩))))))
  refine ab (w_var rfl (ab (w_var rfl (ab (ao (w_var rfl (Ac (cz (af ?_)))))))))
  exact h.imp fun d s q => q
end
section
variable {FF n : Nat} {st : Sto}
def NU : List Str := [Str.ofString "x", Str.ofString "y", Str.ofString "z", Str.ofString "n"]
def AR : List Str := [Str.ofString "a", Str.ofString "b"]
inductive Tr : Bool → Nat → D → Prop
 | unk {k : Nat} {x : Str} : x ∈ NU → Tr true (k + 1) (.tup [W "unknown", .str x])
 | arr {k : Nat} {x : Str} : x ∈ AR → Tr false (k + 1) (.tup [W "unknown", .str x])
 | num {k : Nat} {p q : Int} : Kc p q → Tr true (k + 1) (.tup [W "number", .tup [.int p, .int q]])
 | wei {k : Nat} {p q : Int} {t : D} : Kc p q → Tr true k t → Tr true (k + 1) (.tup [W "weigh", .tup [.int p, .int q], t])
 | cal {k : Nat} {t : D} : Tr true k t → Tr true (k + 1) (.tup [W "call", W "f", .tup [t]])
 | rea {k : Nat} {a t : D} : Tr false k a → Tr true k t → Tr true (k + 1) (.tup [W "read", a, t])
 | plu {k : Nat} {t u : D} : Tr true k t → Tr true k u → Tr true (k + 1) (.tup [W "plus", .tup [t, u]])
 | put {k : Nat} {a t u : D} : Tr false k a → Tr true k t → Tr true k u → Tr false (k + 1) (.tup [W "put", a, t, u])
theorem Tr.up {b : Bool} {k : Nat} {t : D} (h : Tr b k t) : ∀ {m : Nat}, k ≤ m → Tr b m t := by
 induction h with
 | unk h => intro m hm; obtain ⟨j, rfl⟩ : ∃ j, m = j + 1 := ⟨m - 1, by omega⟩; exact .unk h
 | arr h => intro m hm; obtain ⟨j, rfl⟩ : ∃ j, m = j + 1 := ⟨m - 1, by omega⟩; exact .arr h
 | num h => intro m hm; obtain ⟨j, rfl⟩ : ∃ j, m = j + 1 := ⟨m - 1, by omega⟩; exact .num h
 | wei h _ i => intro m hm; obtain ⟨j, rfl⟩ : ∃ j, m = j + 1 := ⟨m - 1, by omega⟩; exact .wei h (i (by omega))
 | cal _ i => intro m hm; obtain ⟨j, rfl⟩ : ∃ j, m = j + 1 := ⟨m - 1, by omega⟩; exact .cal (i (by omega))
 | rea _ _ i1 i2 => intro m hm; obtain ⟨j, rfl⟩ : ∃ j, m = j + 1 := ⟨m - 1, by omega⟩; exact .rea (i1 (by omega)) (i2 (by omega))
 | plu _ _ i1 i2 => intro m hm; obtain ⟨j, rfl⟩ : ∃ j, m = j + 1 := ⟨m - 1, by omega⟩; exact .plu (i1 (by omega)) (i2 (by omega))
 | put _ _ _ i1 i2 i3 => intro m hm; obtain ⟨j, rfl⟩ : ∃ j, m = j + 1 := ⟨m - 1, by omega⟩; exact .put (i1 (by omega)) (i2 (by omega)) (i3 (by omega))
def kd (b : Bool) : D := if b then W "num" else W "array"
theorem Df (b : Bool) : okN 40 (kd b) = true := by cases b <;> decide +kernel
theorem aiz {x : Str} (h : x ∈ NU) : ay UNK (.str x) = some (kd true) := by
 simp only [NU, List.mem_cons, List.not_mem_nil, or_false] at h
 rcases h with rfl | rfl | rfl | rfl <;> decide +kernel
theorem aja {x : Str} (h : x ∈ AR) : ay UNK (.str x) = some (kd false) := by
 simp only [AR, List.mem_cons, List.not_mem_nil, or_false] at h
 rcases h with rfl | rfl <;> decide +kernel
abbrev Kw (FF n : Nat) (b : Bool) (t : D) (room : Int) : Prop := ∀ st, Has st → Wr (C FF n 30 [.loc 6, t, .int room] st) fun d s => d = kd b ∧ Ex st s
theorem ajb {f : D} {room : Int} (hf : ∀ s, C FF n 6 [f] s = .ok (.bl true) s) : Wr (C FF (n + 1) 32 [.loc 6, .tup [W "number", f], .int room] st) fun d s => d = kd true ∧ s = st := by
 refine Bp [some (.loc 6), some (.tup [W "number", f]), some (.int room)] (b := jl) rfl rfl (by decide) rfl ?_
 unfold jl
 refine Af (Bh (gz (jg (ab (Bj (w_var rfl (Ac (Br (d := f) rfl (af (By (hf st) ⟨true, rfl, Bc ?_⟩))))))))))
 exact ax (ah (Af (Bg (Ac ⟨rfl, rfl⟩))))
theorem Sk {x : Str} {b : Bool} {room : Int} (H : Has st) (h : ay UNK (.str x) = some (kd b)) : Wr (C FF (n + 2) 33 [.loc 6, .tup [W "unknown", .str x], .int room] st) fun d s => d = kd b ∧ s = st := by
 refine Bp [some (.loc 6), some (.tup [W "unknown", .str x]), some (.int room), none] (b := Jl) rfl rfl (by decide) rfl ?_
 unfold Jl
 refine Af (Bf (Ls (w_var rfl ⟨6, FLD, rfl, H.i, aiv, ab (Bj (w_var rfl (Ac (Br (d := .str x) rfl (af ((aix H h).imp ?_))))))⟩)))
 rintro d s ⟨rfl, rfl⟩
 refine ⟨of_decide_eq_true rfl, ah (Af (Bh (Bb (w_var rfl (Ac (Lz ⟨_, rfl, ?_⟩))))))⟩
 have hn : decide (kd b = .non) = false := by cases b <;> decide +kernel
 rw [hn]
 exact Bc (ax (ah (Af (Bg (w_var rfl ⟨rfl, rfl⟩)))))
theorem ajc {f t : D} {room : Int} (H : Has st) (hf : ∀ s, C FF (n + 1) 6 [f] s = .ok (.bl true) s) (ht : Kw FF n true t room) : Wr (C FF (n + 2) 34 [.loc 6, .tup [W "weigh", f, t], .int room] st) fun d s => d = kd true ∧ Ex st s := by
 refine Bp [some (.loc 6), some (.tup [W "weigh", f, t]), some (.int room)] (b := jm) rfl rfl (by decide) rfl ?_
 unfold jm
 refine Af (Bh (gz (jg (ab (Bj (w_var rfl (Ac (Br (d := f) rfl (af (By (hf st) ⟨true, rfl, Bc ?_⟩))))))))))
 refine ax (ah (Af (Dq (Au (ab (w_var rfl (ab (Ia (w_var rfl (ia (Ac ⟨2, rfl, Hz (Ma rfl (ab (Be (ab (Ac (af ⟨of_decide_eq_true rfl, ab (w_var rfl (af ?_))⟩))))))⟩)))))))))))
 refine (Kd (ts := [t]) (ks := [kd true]) rfl (by simp [Df]) (fun i t' k' h1 h2 s Hs => ?_) H).imp ?_
 · cases i with
   | zero => simp at h1 h2; subst h1 h2; exact ht s Hs
   | succ i => simp at h1
 · rintro d s ⟨rfl, E⟩
   exact ah (Af (Bg (Ac ⟨rfl, E⟩)))
end
section
variable {FF n : Nat} {st : Sto}
theorem ajd : opD .mul (.tup [W "num"]) (.int (2 : Nat)) st = .ok (.tup [W "num", W "num"]) st := by kernel_rfl
theorem ck1 {t : D} {b : Bool} {room : Int} (H : Has st) (ht : Kw FF n b t room) : Wr (C FF (n + 1) 31 [.loc 6, .tup [t], .tup [kd b], .int room] st) fun d s => d = .non ∧ Ex st s :=
 Kd (ts := [t]) (ks := [kd b]) rfl (by simp [Df]) (fun i t' k' h1 h2 s Hs => by
  cases i with
  | zero => simp at h1 h2; subst h1 h2; exact ht s Hs
  | succ i => simp at h1) H
theorem ck2 {t u : D} {b c : Bool} {room : Int} (H : Has st) (ht : Kw FF n b t room) (hu : Kw FF n c u room) : Wr (C FF (n + 1) 31 [.loc 6, .tup [t, u], .tup [kd b, kd c], .int room] st) fun d s => d = .non ∧ Ex st s :=
 Kd (ts := [t, u]) (ks := [kd b, kd c]) rfl (by simp [Df]) (fun i t' k' h1 h2 s Hs => by
  match i with
  | 0 => simp at h1 h2; subst h1 h2; exact ht s Hs
  | 1 => simp at h1 h2; subst h1 h2; exact hu s Hs
  | i + 2 => simp at h1) H
theorem ck3 {t u v : D} {a b c : Bool} {room : Int} (H : Has st) (ht : Kw FF n a t room) (hu : Kw FF n b u room) (hv : Kw FF n c v room) : Wr (C FF (n + 1) 31 [.loc 6, .tup [t, u, v], .tup [kd a, kd b, kd c], .int room] st) fun d s => d = .non ∧ Ex st s :=
 Kd (ts := [t, u, v]) (ks := [kd a, kd b, kd c]) rfl (by simp [Df]) (fun i t' k' h1 h2 s Hs => by
  match i with
  | 0 => simp at h1 h2; subst h1 h2; exact ht s Hs
  | 1 => simp at h1 h2; subst h1 h2; exact hu s Hs
  | 2 => simp at h1 h2; subst h1 h2; exact hv s Hs
  | i + 3 => simp at h1) H
theorem aje {t u : D} {room : Int} (H : Has st) (ht : Kw FF n true t room) (hu : Kw FF n true u room) : Wr (C FF (n + 2) 35 [.loc 6, .tup [W "plus", .tup [t, u]], .int room] st) fun d s => d = kd true ∧ Ex st s := by
 refine Bp [some (.loc 6), some (.tup [W "plus", .tup [t, u]]), some (.int room)] (b := Jm) rfl rfl (by decide) rfl ?_
 unfold Jm
 refine Af (Bh (gz (ib (Bj (w_var rfl (Ac (Br (d := .tup [t, u]) rfl ⟨.b "tuple", true, rfl, rfl, Bc ?_⟩)))))))
 refine ax (ah (Af (Dq (Au (ab (w_var rfl (ab (Bj (w_var rfl (Ac (Br (d := .tup [t, u]) rfl ?_)))))))))))
 refine ab (ao (Be (ab (Ac (af ⟨of_decide_eq_true rfl, Ee (ab (Bj (w_var rfl (Ac (Br (d := .tup [t, u]) rfl (af (Hb (By ajd (ab (w_var rfl (af ?_)))))))))))⟩)))))
 refine (ck2 (b := true) (c := true) H ht hu).imp ?_
 rintro d s ⟨rfl, E⟩
 exact ah (Af (Bg (Ac ⟨rfl, E⟩)))
theorem ajf {t : D} {room : Int} (H : Has st) (ht : Kw FF n true t room) : Wr (C FF (n + 2) 36 [.loc 6, .tup [W "call", W "f", .tup [t]], .int room] st) fun d s => d = kd true ∧ Ex st s := by
 refine Bp [some (.loc 6), some (.tup [W "call", W "f", .tup [t]]), some (.int room), none, none, none] (b := jn) rfl rfl (by decide) rfl ?_
 unfold jn
 refine Af (Bf (Ls (w_var rfl ⟨6, FLD, rfl, H.i, aiw, ab (Bj (w_var rfl (Ac (Br (d := W "f") rfl (af ((aiy H).imp ?_))))))⟩)))
 rintro d s ⟨rfl, rfl⟩
 refine ⟨of_decide_eq_true rfl, ah (Af (Bh (Bb (w_var rfl (Ac (Lz ⟨_, rfl, Bc (ax (ah (Af ?_)))⟩))))))⟩
 refine qf (w_var rfl ⟨_, rfl, ah (Af (Dq (Au (ab (w_var rfl (ab (Bj (w_var rfl (Ac (Br (d := .tup [t]) rfl (ab (w_var rfl (ab (w_var rfl (af ?_)))))))))))))))⟩)
 refine (ck1 (b := true) H ht).imp ?_
 rintro d s ⟨rfl, E⟩
 exact ah (Af (Bg (w_var rfl ⟨rfl, E⟩)))
theorem ajg {a t : D} {room : Int} (H : Has st) (ha : Kw FF n false a room) (ht : Kw FF n true t room) : Wr (C FF (n + 2) 37 [.loc 6, .tup [W "read", a, t], .int room] st) fun d s => d = kd true ∧ Ex st s := by
 refine Bp [some (.loc 6), some (.tup [W "read", a, t]), some (.int room)] (b := Jn) rfl rfl (by decide) rfl ?_
 unfold Jn
 refine Af (Dq (Au (ab (w_var rfl (ab (Ia (w_var rfl (ia (Ac ⟨1, rfl, Hz (Ma rfl (ab (Be (ab (Ac (ab (Ac (af ⟨of_decide_eq_true rfl, ab (w_var rfl (af ?_))⟩))))))))⟩)))))))))
 refine (ck2 (b := false) (c := true) H ha ht).imp ?_
 rintro d s ⟨rfl, E⟩
 exact ah (Af (Bg (Ac ⟨rfl, E⟩)))
theorem ajh {a t u : D} {room : Int} (H : Has st) (ha : Kw FF n false a room) (ht : Kw FF n true t room) (hu : Kw FF n true u room) : Wr (C FF (n + 2) 38 [.loc 6, .tup [W "put", a, t, u], .int room] st) fun d s => d = kd false ∧ Ex st s := by
 refine Bp [some (.loc 6), some (.tup [W "put", a, t, u]), some (.int room)] (b := jo) rfl rfl (by decide) rfl ?_
 unfold jo
 refine Af (Dq (Au (ab (w_var rfl (ab (Ia (w_var rfl (ia (Ac ⟨1, rfl, Hz (Ma rfl (ab (Be (ab (Ac (ab (Ac (ab (Ac (af ⟨of_decide_eq_true rfl, ab (w_var rfl (af ?_))⟩))))))))))⟩)))))))))
 refine (ck3 (a := false) (b := true) (c := true) H ha ht hu).imp ?_
 rintro d s ⟨rfl, E⟩
 exact ah (Af (Bg (Ac ⟨rfl, E⟩)))
theorem kw : ∀ (k : Nat) (b : Bool) (t : D), Tr b k t → ∀ room : Int, (k : Int) ≤ room → Kw (FF + 5) (n + 3 * k + 3) b t room
 | 0, b, t, h, room, hr, st, H => by cases h
 | k + 1, b, t, h, room, hr, st, H => by
  have ih := fun b t h => kw k b t h (room - 1) (by omega)
  have H2 : ∀ {i : Nat}, Has (st ++ [.fnc i]) := fun {i} => H.ex .one
  rw [show n + 3 * (k + 1) + 3 = (n + 3 * k + 4) + 2 by omega]
  cases h with
  | unk hx => exact Fj (l := 1) (i := 33) (by decide +kernel) (by decide +kernel) (by decide +kernel) rfl (.inl rfl) rfl (by omega) ((Sk H2 (aiz hx)).imp fun d s q => ⟨q.1, q.2 ▸ .one⟩)
  | arr hx => exact Fj (l := 1) (i := 33) (by decide +kernel) (by decide +kernel) (by decide +kernel) rfl (.inl rfl) rfl (by omega) ((Sk H2 (aja hx)).imp fun d s q => ⟨q.1, q.2 ▸ .one⟩)
  | num hf => exact Fj (l := 1) (i := 32) (by decide +kernel) (by decide +kernel) (by decide +kernel) rfl (.inl rfl) rfl (by omega) ((ajb (fun s => sj (n := n + 3 * k + 1) hf)).imp fun d s q => ⟨q.1, q.2 ▸ .one⟩)
  | wei hf ht => exact Fj (l := 2) (i := 34) (by decide +kernel) (by decide +kernel) (by decide +kernel) rfl (.inr (.inl rfl)) rfl (by omega) ((ajc H2 (fun s => sj (n := n + 3 * k + 1) hf) (ih _ _ ht)).imp fun d s q => ⟨q.1, Ex.one.trans q.2⟩)
  | cal ht => exact Fj (l := 2) (i := 36) (by decide +kernel) (by decide +kernel) (by decide +kernel) rfl (.inr (.inl rfl)) rfl (by omega) ((ajf H2 (ih _ _ ht)).imp fun d s q => ⟨q.1, Ex.one.trans q.2⟩)
  | rea ha ht => exact Fj (l := 2) (i := 37) (by decide +kernel) (by decide +kernel) (by decide +kernel) rfl (.inr (.inl rfl)) rfl (by omega) ((ajg H2 (ih _ _ ha) (ih _ _ ht)).imp fun d s q => ⟨q.1, Ex.one.trans q.2⟩)
  | plu ht hu => exact Fj (l := 1) (i := 35) (by decide +kernel) (by decide +kernel) (by decide +kernel) rfl (.inl rfl) rfl (by omega) ((aje H2 (ih _ _ ht) (ih _ _ hu)).imp fun d s q => ⟨q.1, Ex.one.trans q.2⟩)
  | put ha ht hu => exact Fj (l := 3) (i := 38) (by decide +kernel) (by decide +kernel) (by decide +kernel) rfl (.inr (.inr rfl)) rfl (by omega) ((ajh H2 (ih _ _ ha) (ih _ _ ht) (ih _ _ hu)).imp fun d s q => ⟨q.1, Ex.one.trans q.2⟩)
end
section
variable {FF n : Nat} {st : Sto}
theorem Sl {x : Str} (h : x ∈ NU ∨ x ∈ AR) : PyData.canLay0 (.str x) = true := by
 simp only [NU, AR, List.mem_cons, List.not_mem_nil, or_false] at h
 rcases h with (rfl | rfl | rfl | rfl) | (rfl | rfl) <;> decide +kernel
theorem sm : PyData.canLay0 (.str (Str.ofString "unknown")) = true := by decide +kernel
theorem aji : PyData.canLay0 (.str (Str.ofString "number")) = true := by decide +kernel
theorem ajj : PyData.canLay0 (.str (Str.ofString "weigh")) = true := by decide +kernel
theorem ajk : PyData.canLay0 (.str (Str.ofString "call")) = true := by decide +kernel
theorem ajl : PyData.canLay0 (.str (Str.ofString "f")) = true := by decide +kernel
theorem lay_read : PyData.canLay0 (.str (Str.ofString "read")) = true := by decide +kernel
theorem ajm : PyData.canLay0 (.str (Str.ofString "plus")) = true := by decide +kernel
theorem ajn : PyData.canLay0 (.str (Str.ofString "put")) = true := by decide +kernel
theorem ajo : PyData.canLay0 (.str (Str.ofString "same")) = true := by decide +kernel
theorem Tr.ok {b : Bool} {k : Nat} {t : D} (h : Tr b k t) : okN (2 * k) t = true := by
 induction h with
 | unk h => rename_i k x; rw [show 2 * (k + 1) = 2 * k + 1 + 1 by omega]; simp [okN, sm, Sl (.inl h)]
 | arr h => rename_i k x; rw [show 2 * (k + 1) = 2 * k + 1 + 1 by omega]; simp [okN, sm, Sl (.inr h)]
 | num h => rename_i k p q; rw [show 2 * (k + 1) = 2 * k + 1 + 1 by omega]; simp [okN, aji]
 | wei h _ i => rename_i k p q t _; rw [show 2 * (k + 1) = 2 * k + 1 + 1 by omega]; simp [okN, ajj, Dj (by omega : 2 * k ≤ 2 * k + 1) i]
 | cal _ i => rename_i k t _; rw [show 2 * (k + 1) = 2 * k + 1 + 1 by omega]; simp [okN, ajk, ajl, i]
 | rea _ _ i1 i2 => rename_i k a t _ _; rw [show 2 * (k + 1) = 2 * k + 1 + 1 by omega]; simp [okN, lay_read, Dj (by omega : 2 * k ≤ 2 * k + 1) i1, Dj (by omega : 2 * k ≤ 2 * k + 1) i2]
 | plu _ _ i1 i2 => rename_i k t u _ _; rw [show 2 * (k + 1) = 2 * k + 1 + 1 by omega]; simp [okN, ajm, i1, i2]
 | put _ _ _ i1 i2 i3 => rename_i k a t u _ _ _; rw [show 2 * (k + 1) = 2 * k + 1 + 1 by omega]; simp [okN, ajn, Dj (by omega : 2 * k ≤ 2 * k + 1) i1, Dj (by omega : 2 * k ≤ 2 * k + 1) i2, Dj (by omega : 2 * k ≤ 2 * k + 1) i3]
theorem Tr.o {b : Bool} {k m : Nat} {t : D} (h : Tr b k t) (hk : 2 * k ≤ m) : okN m t = true := Dj hk h.ok
theorem ajp {a t u p : D} : C FF (n + 1) 1 [.tup [W "read", .tup [W "put", a, t, u], p]] st = .ok (.bl true) st := by kernel_rfl
theorem ajq {x : Str} {p : D} : C FF (n + 1) 1 [.tup [W "read", .tup [W "unknown", .str x], p]] st = .ok (.bl false) st := by kernel_rfl
theorem Sm {a t u p : D} : C FF (n + 1) 2 [.tup [W "read", .tup [W "put", a, t, u], p]] st = .ok u st := by kernel_rfl
theorem Mr {a t u p : D} : C FF (n + 1) 3 [.tup [W "read", .tup [W "put", a, t, u], p]] st = .ok (.tup [W "read", a, p]) st := by kernel_rfl
theorem Sn {a t u p : D} : C FF (n + 1) 4 [.tup [W "read", .tup [W "put", a, t, u], p]] st = .ok (.tup [W "same", p, t]) st := by kernel_rfl
theorem so {b : Bool} {t : D} (H : Has st) (ht : Kw FF n b t 12) : Wr (C FF (n + 1) 29 [.loc 6, t] st) fun d s => d = kd b ∧ Ex st s := by
 refine Bp [some (.loc 6), some t] (b := Jj) rfl rfl (by decide) rfl ?_
 unfold Jj
 refine Af (Bg (Au (ab (w_var rfl (ab (w_var rfl (ab (Ac (af ((ht st H).imp ?_))))))))))
 exact fun d s q => q
theorem nn : (!decide (kd true = W "num")) = false := by decide +kernel
theorem ajr {p q : D} {room : Int} (H : Has st) (hp : Kw FF n true p room) (hq : Kw FF n true q room) : Wr (C FF (n + 1) 42 [.loc 6, .tup [W "same", p, q], .int room] st) fun d s => d = .non ∧ Ex st s := by
 refine Bp [some (.loc 6), some (.tup [W "same", p, q]), some (.int room), none] (b := jq) rfl rfl (by decide) rfl ?_
 unfold jq
 refine Af (Bf (Au (ab (w_var rfl (ab (Bj (w_var rfl (Ac (Br (d := p) rfl (ab (w_var rfl (af ((hp st H).imp ?_)))))))))))))
 rintro d s ⟨rfl, E1⟩
 refine ⟨of_decide_eq_true rfl, ah (Af (Bh (Bb (Au (ab (w_var rfl (ab (Bj (w_var rfl (Ac (Br (d := q) rfl (ab (w_var rfl (af ((hq s (H.ex E1)).imp ?_)))))))))))))))⟩
 rintro d s2 ⟨rfl, E2⟩
 refine w_var rfl (Ef (Df _) (Df _) ⟨_, rfl, ?_⟩)
 rw [decide_eq_true rfl]
 refine Bc (ax (ah (Af (Bh (Jf (Bb (w_var rfl (Ac (Ef (Df true) (Df true) ⟨_, rfl, ?_⟩)))))))))
 show (((!decide (kd true = W "num")) = true → _) ∧ ((!decide (kd true = W "num")) = false → _))
 rw [nn]
 exact Bc (Bc (ax (ah (ax ⟨rfl, E1.trans E2⟩))))
theorem ajs {p q : D} {room : Int} (H : Has st) (hr : 1 ≤ room) (hp : Kw FF n true p (room - 1)) (hq : Kw FF n true q (room - 1)) : Wr (C FF (n + 2) 40 [.loc 6, .tup [W "same", p, q], .int room] st) fun d s => d = .non ∧ Ex st s := by
 refine Bp [some (.loc 6), some (.tup [W "same", p, q]), some (.int room), none] (b := Jp) rfl rfl (by decide) rfl ?_
 unfold Jp
 refine Af (Bf (Au (ab (w_var rfl (af (By Si ⟨of_decide_eq_true rfl, ah (Af (Bh ?_))⟩))))))
 refine Cy (Bb (w_var rfl (Ac (ef ⟨_, rfl, ?_⟩))))
 rw [decide_eq_false (by omega : ¬ room < 1)]
 refine Bc (Cy (Qj (w_var rfl ⟨_, rfl, ?_⟩)))
 have h1 : (xor true (decide (Str.ofString "same" ∈ [Str.ofString "atmost", Str.ofString "below", Str.ofString "same", Str.ofString "not", Str.ofString "and", Str.ofString "or"]))) = false := by decide +kernel
 rw [h1]
 refine Bc (Bb (Ee (ab (w_var rfl (af (Hb (qj (w_var rfl ⟨_, .int 3, rfl, by decide +kernel, jh ⟨_, rfl, ?_⟩⟩))))))))
 refine Bc (ax (ah (Af (Bh (Bb (w_var rfl (Ac (aau (by decide +kernel) (by decide +kernel) ⟨_, rfl, ?_⟩))))))))
 have h2 : decide (W "same" = W "not") = false := by decide +kernel
 rw [h2]
 refine Bc (Af (Bh (Bb (w_var rfl (Be (ab (Ac (ab (Ac (af ⟨of_decide_eq_true rfl, ⟨_, _, (by kernel_rfl : cmD .inL (W "same") (.tup [W "and", W "or"]) st = .ok (.bl false) st), ⟨false, rfl, Bc (Af (Dq (Au (ab (w_var rfl (ab (w_var rfl (ab (ao (w_var rfl (Ac (cz (af ((ajr H hp hq).imp ?_))))))))))))))⟩⟩⟩))))))))))
 rintro d s ⟨rfl, E⟩
 exact ah (ax (ah (ax (ah (ax ⟨rfl, E⟩)))))
theorem ajt {p q : D} (H : Has st) (hp : Kw FF n true p 11) (hq : Kw FF n true q 11) : Wr (C FF (n + 3) 39 [.loc 6, .tup [W "same", p, q]] st) fun d s => d = .non ∧ Ex st s := by
 refine Bp [some (.loc 6), some (.tup [W "same", p, q])] (b := Jo) rfl rfl (by decide) rfl ?_
 unfold Jo
 refine Af (abf (Af (Dq (Au (ab (w_var rfl (ab (w_var rfl (ab (Ac (af ((ajs H (by omega) hp hq).imp ?_))))))))))))
 rintro d s ⟨rfl, E⟩
 exact ah (ax (ah (ax ⟨rfl, E⟩)))
end
section
variable {FF n : Nat} {st : Sto}
inductive Pu : Nat → D → Prop
 | z {x : Str} : x ∈ AR → Pu 0 (.tup [W "unknown", .str x])
 | s {m : Nat} {a t u : D} : Pu m a → Tr true 4 t → Tr true 4 u → Pu (m + 1) (.tup [W "put", a, t, u])
theorem Pu.tr {m : Nat} {a : D} (h : Pu m a) : Tr false (m + 5) a := by
 induction h with
 | z h => exact .arr h
 | s _ ht hu i => exact .put i (ht.up (by omega)) (hu.up (by omega))
theorem ee {a : D} : (!decide (a = a)) = false := by simp
theorem aju {m : Nat} {a t u p : D} (hm : m ≤ 4) (H : Has st) (ha : Pu m a) (ht : Tr true 4 t) (hu : Tr true 4 u) (hp : Tr true 4 p) :
    Wr (C (FF + 5) (n + 60) 50 [.loc 6, .tup [W "read", .tup [W "put", a, t, u], p]] st) fun d s => d = .bl true ∧ Ex st s := by
  have hM : Tr true (m + 6) (.tup [W "read", a, p]) := .rea ha.tr (hp.up (by omega))
  have oA := ha.tr.o (m := 36) (by omega)
  have oT := ht.o (m := 36) (by omega)
  have oU := hu.o (m := 40) (by omega)
  have oP := hp.o (m := 36) (by omega)
  have oA2 := Dj (by omega : 36 ≤ 39) oA
  have oT2 := Dj (by omega : 36 ≤ 39) oT
  have oP2 := Dj (by omega : 36 ≤ 39) oP
  have oM : okN 40 (.tup [W "read", a, p]) = true := by simp [okN, lay_read, oA2, oP2]
  have oN : okN 40 (.tup [W "same", p, t]) = true := by simp [okN, ajo, oT2, oP2]
  refine Bp [some (.loc 6), some (.tup [W "read", .tup [W "put", a, t, u], p]), none] (b := jt) rfl rfl (by decide) rfl ?_
  unfold jt
  refine Af (Jg (ab (Ac (af ⟨_, rfl, ?_⟩))))
  refine ic (fun _ env s => (∃ c, env = [some (.loc 6), some (.tup [W "read", .tup [W "put", a, t, u], p]), c]) ∧ Has s ∧ Ex st s) (fun _ _ _ _ => rfl) ⟨⟨_, rfl⟩, H, .refl _⟩ (fun j d hd env s hj => ?_) (fun env s hj => ?_)
  · obtain ⟨⟨c, rfl⟩, H1, E1⟩ := hj
    refine Ib (env' := [some (.loc 6), some (.tup [W "read", .tup [W "put", a, t, u], p]), some d]) rfl ?_
    refine Af (Bh (Cy (Bb (Au (ab (w_var rfl (af (By (Sm (n := n + 58)) (Bj (Bj (w_var rfl (Ac (Br (d := .tup [W "put", a, t, u]) rfl (Ac (Br (d := u) rfl (Ef oU oU ⟨_, rfl, ?_⟩))))))))))))))))
    rw [ee]
    refine Bc (Bb (Au (ab (w_var rfl (ab (Au (ab (w_var rfl (af (By (Sm (n := n + 58)) (af ((so H1 (kw (n := n + 43) 4 true u hu 12 (by omega))).imp ?_))))))))))))
    rintro d2 s2 ⟨rfl, E2⟩
    have H2 := H1.ex E2
    refine Ac (Ef (Df true) (Df true) ⟨_, rfl, ?_⟩)
    show (((!decide (kd true = W "num")) = true → _) ∧ ((!decide (kd true = W "num")) = false → _))
    rw [nn]
    refine Bc (ax (ah (Af (Bh (Cy (Bb (Au (ab (w_var rfl (af (By (Mr (n := n + 58)) (Be (ab (Ac (ab (Bj (Bj (w_var rfl (Ac (Br (d := .tup [W "put", a, t, u]) rfl (Ac (Br (d := a) rfl (ab (Bj (w_var rfl (Ac (Br (d := p) rfl (af ⟨of_decide_eq_true rfl, Ef oM oM ⟨_, rfl, ?_⟩⟩))))))))))))))))))))))))))))
    rw [ee]
    refine Bc (Bb (Au (ab (w_var rfl (ab (Au (ab (w_var rfl (af (By (Mr (n := n + 58)) (af ((so H2 (kw (n := n + 25) 10 true _ (hM.up (by omega)) 12 (by omega))).imp ?_))))))))))))
    rintro d3 s3 ⟨rfl, E3⟩
    have H3 := H2.ex E3
    refine Ac (Ef (Df true) (Df true) ⟨_, rfl, ?_⟩)
    show (((!decide (kd true = W "num")) = true → _) ∧ ((!decide (kd true = W "num")) = false → _))
    rw [nn]
    refine Bc (ax (ah (Af (Bh (Cy (Bb (Au (ab (w_var rfl (af (By (Sn (n := n + 58)) (Be (ab (Ac (ab (Bj (w_var rfl (Ac (Br (d := p) rfl (ab (Bj (Bj (w_var rfl (Ac (Br (d := .tup [W "put", a, t, u]) rfl (Ac (Br (d := t) rfl (af ⟨of_decide_eq_true rfl, Ef oN oN ⟨_, rfl, ?_⟩⟩))))))))))))))))))))))))))))
    rw [ee]
    refine Bc (Bb (Au (ab (w_var rfl (ab (Au (ab (w_var rfl (af (By (Sn (n := n + 58)) (af ((ajt H3 (kw (n := n + 41) 4 true p hp 11 (by omega)) (kw (n := n + 41) 4 true t ht 11 (by omega))).imp ?_))))))))))))
    rintro d4 s4 ⟨rfl, E4⟩
    refine Ac (qg ⟨_, rfl, Bc (ax (ah (ax ⟨_, rfl, ⟨_, rfl⟩, H3.ex E4, ((E1.trans E2).trans E3).trans E4⟩)))⟩)
  · obtain ⟨⟨c, rfl⟩, H1, E1⟩ := hj
    exact ah (Af (Bg (Ac ⟨rfl, E1⟩)))
end
section
variable {FF n : Nat} {st : Sto}
def Is (s : Sto) (l : Nat) : Prop := ∃ is : List Int, s[l]? = some (.lst (is.map .int)) ∧ is.length ≤ 200
theorem ajv (is : List Int) : (is.map D.int).all (okN 39) = true := by
 rw [List.all_eq_true]
 intro d hd
 obtain ⟨i, _, rfl⟩ := List.mem_map.mp hd
 simp [okN]
theorem So {l : Nat} (h : Is st l) : Wr (C FF (n + 1) 45 [.loc l] st) fun d s => (∃ i, d = .int i) ∧ Is s l ∧ Fq l st s := by
 obtain ⟨is, hl, hn⟩ := h
 have hlt := (List.getElem?_eq_some_iff.mp hl).1
 have h2 : (st ++ [.lst []])[l]? = some (.lst (is.map .int)) := Ex.one l _ hl
 refine Bp [some (.loc l)] (b := Jq) rfl rfl (by decide) rfl ?_
 unfold Jq
 refine Af (Bh (Bb (w_var rfl (Ed (af ⟨of_decide_eq_true rfl, aav (xs := is.map .int) (ys := []) (by unfold Am; rw [h2]) (by simp [Am]) (ajv is) rfl ⟨_, rfl, ?_⟩⟩)))))
 refine ⟨fun e => ?_, fun e => ?_⟩
 · exact Af (Bg (Ac ⟨⟨0, rfl⟩, ⟨is, h2, hn⟩, Ex.one.fq⟩))
 · have hne : is ≠ [] := fun z => by subst z; simp at e
   refine ax (ah (Af (Bg (Fw (w_var rfl ⟨by simp [rdy, Ew, h2], af ?_⟩)))))
   have hg : (is.map D.int).getLast? = some (.int (is.getLast hne)) := by rw [List.getLast?_map, List.getLast?_eq_getLast hne]; rfl
   refine ⟨.int (is.getLast hne), (st ++ [Cell.lst []]).set l (.lst (is.map D.int).dropLast), by simp only [mtD, h2, hg], ⟨_, rfl⟩, ⟨is.dropLast, ?_, by simp; omega⟩, ?_⟩
   · rw [List.getElem?_set_self (by simp; omega), List.map_dropLast]
   · refine ⟨by simp, fun i c hi e => ?_⟩
     rw [List.getElem?_set_ne (Ne.symm hi)]
     exact Ex.one i c e
theorem Sq {a b : Int} (h : 0 ≤ b) : a.fdiv b = a / b := Int.fdiv_eq_ediv_of_nonneg a h
theorem Gk {a b : Int} (h : 0 ≤ b) : a.fmod b = a % b := Int.fmod_eq_emod_of_nonneg a h
theorem Is.ex {s s' : Sto} {l : Nat} (h : Is s l) (e : Ex s s') : Is s' l := by
 obtain ⟨is, h1, h2⟩ := h
 exact ⟨is, e l _ h1, h2⟩
theorem sr {c : Int} : Wr (C FF (n + 1) 46 [.int c] st) fun d s => ∃ p q, d = .tup [.int p, .int q] ∧ Kc p q ∧ Ex st s := by
 obtain ⟨p, e1, h3, h4⟩ : ∃ p, c.fmod 13 - 6 = p ∧ -6 ≤ p ∧ p ≤ 6 := ⟨_, rfl, by rw [Gk (by decide)]; omega, by rw [Gk (by decide)]; omega⟩
 obtain ⟨k, e2, h5⟩ : ∃ k, (c.fdiv 13).fmod 4 = k ∧ (k = 0 ∨ k = 1 ∨ k = 2 ∨ k = 3) := ⟨_, rfl, by rw [Gk (by decide)]; omega⟩
 obtain ⟨q, e3, h7⟩ : ∃ q : Int, L2.atI [D.int 1, .int 1, .int 2, .int 3] k = some (.int q) ∧ (q = 1 ∨ q = 2 ∨ q = 3) := by
  rcases h5 with rfl | rfl | rfl | rfl
  · exact ⟨1, rfl, .inl rfl⟩
  · exact ⟨1, rfl, .inl rfl⟩
  · exact ⟨2, rfl, .inr (.inl rfl)⟩
  · exact ⟨3, rfl, .inr (.inr rfl)⟩
 have hq : Dx q := by rcases h7 with rfl | rfl | rfl <;> decide
 refine Bp [some (.int c), none, none] (b := jr) rfl rfl (by decide) rfl ?_
 unfold jr
 refine Af (Bf (ao (ao (w_var rfl (Ac (bz (by decide) (Ac (cz ?_))))))))
 rw [e1]
 refine ⟨of_decide_eq_true rfl, ah (Af (Bf (Bj (Ed (ab (Ac (ab (Ac (ab (Ac (ab (Ac (af ⟨of_decide_eq_true rfl, ao (ao (w_var rfl (Ac (Cg (by decide) (Ac (bz (by decide) ?_))))))⟩)))))))))))))⟩
 rw [e2]
 refine Jh (xs := [.int 1, .int 1, .int 2, .int 3]) (by simp [Am]) e3 ⟨of_decide_eq_true rfl, ah (Af (Bh (Jf (Bb (w_var rfl (Ac (Ly ⟨_, rfl, ?_⟩)))))))⟩
 refine ⟨fun g => ?_, fun g => ?_⟩
 · have g := of_decide_eq_true g
   refine Bb (ao (w_var rfl (w_var rfl (bz (by omega) (Ac (Ha ⟨_, rfl, ?_⟩))))))
   refine ⟨fun g2 => ?_, fun g2 => ?_⟩
   · have g2 := of_decide_eq_true g2
     rw [Gk (by omega)] at g2
     refine Af (Bg (Be (ab (ao (w_var rfl (w_var rfl (Cg hq (ab (Ac (af ⟨of_decide_eq_true rfl, ⟨_, _, rfl, ?_, Ex.one⟩⟩))))))))))
     rw [Sq (by omega)]
     rcases h7 with rfl | rfl | rfl
     · omega
     · exact ⟨by omega, by omega, .inl rfl⟩
     · exact ⟨by omega, by omega, .inl rfl⟩
   · have g2 := of_decide_eq_false g2
     rw [Gk (by omega)] at g2
     refine ax (ah (Af (Bg (Be (ab (w_var rfl (ab (w_var rfl (af ⟨of_decide_eq_true rfl, ⟨_, _, rfl, ⟨h3, h4, ?_⟩, Ex.one⟩⟩)))))))))
     rcases h7 with rfl | rfl | rfl
     · omega
     · exact .inr (.inl ⟨rfl, by omega⟩)
     · exact .inr (.inr ⟨rfl, g2⟩)
 · have g := of_decide_eq_false g
   refine Bc (ax (ah (Af (Bg (Be (ab (w_var rfl (ab (w_var rfl (af ⟨of_decide_eq_true rfl, ⟨_, _, rfl, ⟨h3, h4, ?_⟩, Ex.one⟩⟩))))))))))
   exact .inl (by omega)
end
section
variable {FF n : Nat} {st : Sto}
theorem ajw {i : Int} (h0 : 0 ≤ i) (h1 : i < 4) : ∃ x, L2.atI [W "x", W "y", W "z", W "n"] i = some (.str x) ∧ x ∈ NU := by
 have : i = 0 ∨ i = 1 ∨ i = 2 ∨ i = 3 := by omega
 rcases this with rfl | rfl | rfl | rfl
 · exact ⟨Str.ofString "x", rfl, by decide +kernel⟩
 · exact ⟨Str.ofString "y", rfl, by decide +kernel⟩
 · exact ⟨Str.ofString "z", rfl, by decide +kernel⟩
 · exact ⟨Str.ofString "n", rfl, by decide +kernel⟩
theorem Sr {i : Int} (h0 : 0 ≤ i) (h1 : i < 2) : ∃ x, L2.atI [W "a", W "b"] i = some (.str x) ∧ x ∈ AR := by
 have : i = 0 ∨ i = 1 := by omega
 rcases this with rfl | rfl
 · exact ⟨Str.ofString "a", rfl, by decide +kernel⟩
 · exact ⟨Str.ofString "b", rfl, by decide +kernel⟩
theorem fm0 {a b : Int} (h : 0 < b) : 0 ≤ a.fmod b := by rw [Gk (by omega)]; exact Int.emod_nonneg _ (by omega)
theorem fm1 {a b : Int} (h : 0 < b) : a.fmod b < b := by rw [Gk (by omega)]; exact Int.emod_lt_of_pos _ h
abbrev Dr (l : Nat) (st : Sto) (b : Bool) (k : Nat) (r : D) (s : Sto) : Prop := Tr b k r ∧ Is s l ∧ Fq l st s
theorem su {l m k : Nat} {d : Int} (h : Is st l) (hT : 1 ≤ d → ∀ st, Is st l → Wr (C FF (m + 1) 47 [.loc l, .int (d - 1)] st) (Dr l st true k)) (hA : 1 ≤ d → ∀ st, Is st l → Wr (C FF (m + 1) 48 [.loc l, .int (d - 1)] st) (Dr l st false k)) :
    Wr (C FF (m + 2) 47 [.loc l, .int d] st) (Dr l st true (k + 1)) := by
  refine Bp [some (.loc l), some (.int d), none, none, none, none] (b := Jr) rfl rfl (by decide) rfl ?_
  unfold Jr
  refine Af (Bf (Au (ab (w_var rfl (af ((So (n := m) h).imp ?_))))))
  rintro _ s1 ⟨⟨c, rfl⟩, I1, F1⟩
  refine ⟨of_decide_eq_true rfl, ah (Af (Bf (ao (w_var rfl (Ac (bz (by decide) ?_))))))⟩
  obtain ⟨g, eg, g1, g2⟩ : ∃ g, c.fmod 9 = g ∧ 0 ≤ g ∧ g < 9 := ⟨_, rfl, fm0 (by decide), fm1 (by decide)⟩
  rw [eg]
  refine ⟨of_decide_eq_true rfl, ah (Af (Bh (Cy (Bb (w_var rfl (Ac (ef ⟨_, rfl, ?_⟩)))))))⟩
  refine ⟨fun _ => fw ?_, fun hd => Bb (w_var rfl (Ac (ef ⟨_, rfl, fun _ => ?_, fun h3 => ?_⟩)))⟩
  iterate 2
    · refine Af (Bg (Be (ab (Ac (ab (Bj (Ed (ab (Ac (ab (Ac (ab (Ac (ab (Ac (af ⟨of_decide_eq_true rfl, ao (ao (w_var rfl (Ac (Cg (by decide) (Ac (bz (by decide) ?_))))))⟩))))))))))))))))
      obtain ⟨x, e, hx⟩ := ajw (i := (c.fdiv 9).fmod 4) (fm0 (by decide)) (fm1 (by decide))
      exact Jh (xs := [W "x", W "y", W "z", W "n"]) (by simp [Am]) e (af ⟨of_decide_eq_true rfl, .unk hx, I1.ex .one, F1.trans Ex.one.fq⟩)
  have hd : 1 ≤ d := by have := of_decide_eq_false hd; omega
  refine ax (ah (Af (Bh (Bb (w_var rfl (Ac (Ha ⟨_, rfl, fun _ => ?_, fun h4 => ?_⟩)))))))
  · refine Af (Bg (Be (ab (Ac (ab (Au (ab (ao (w_var rfl (Ac (Cg (by decide) (af ((sr (n := m)).imp ?_)))))))))))))
    rintro _ s2 ⟨p, q, rfl, hf, E2⟩
    exact af ⟨of_decide_eq_true rfl, .num hf, I1.ex E2, F1.trans E2.fq⟩
  refine ax (ah (Af (Bh (Bb (w_var rfl (Ac (Ha ⟨_, rfl, fun _ => ?_, fun h5 => ?_⟩)))))))
  · refine Af (Bg (Be (ab (Ac (ab (Au (ab (ao (w_var rfl (Ac (Cg (by decide) (af ((sr (n := m)).imp ?_)))))))))))))
    rintro _ s2 ⟨p, q, rfl, hf, E2⟩
    refine ab (Au (ab (w_var rfl (ab (ao (w_var rfl (Ac (cz (af ((hT hd s2 (I1.ex E2)).imp ?_))))))))))
    rintro r s3 ⟨ht, I3, F3⟩
    exact af ⟨of_decide_eq_true rfl, .wei hf ht, I3, (F1.trans E2.fq).trans F3⟩
  refine ax (ah (Af (Bh (Bb (w_var rfl (Ac (Ha ⟨_, rfl, fun _ => ?_, fun h6 => ?_⟩)))))))
  · refine Af (Bg (Be (ab (Ac (ab (Ac (ab (Be (ab (Au (ab (w_var rfl (ab (ao (w_var rfl (Ac (cz (af ((hT hd s1 I1).imp ?_)))))))))))))))))))
    rintro r s3 ⟨ht, I3, F3⟩
    exact af ⟨of_decide_eq_true rfl, af ⟨of_decide_eq_true rfl, .cal ht, I3, F1.trans F3⟩⟩
  refine ax (ah (Af (Bh (Bb (w_var rfl (Ac (ef ⟨_, rfl, fun _ => ?_, fun h7 => ?_⟩)))))))
  · refine Af (Bf (Au (ab (w_var rfl (ab (ao (w_var rfl (Ac (cz (af ((hA hd s1 I1).imp ?_)))))))))))
    rintro a s3 ⟨ha, I3, F3⟩
    refine ⟨of_decide_eq_true rfl, ah (Af (Bg (Be (ab (Ac (ab (w_var rfl (ab (Au (ab (w_var rfl (ab (ao (w_var rfl (Ac (cz (af ((hT hd s3 I3).imp ?_))))))))))))))))))⟩
    rintro r s4 ⟨ht, I4, F4⟩
    exact af ⟨of_decide_eq_true rfl, .rea ha ht, I4, (F1.trans F3).trans F4⟩
  refine ax (ah (Af (Bf (Au (ab (w_var rfl (ab (ao (w_var rfl (Ac (cz (af ((hT hd s1 I1).imp ?_)))))))))))))
  rintro a s3 ⟨ha, I3, F3⟩
  refine ⟨of_decide_eq_true rfl, ah (Af (Bg (Be (ab (Ac (ab (Be (ab (w_var rfl (ab (Au (ab (w_var rfl (ab (ao (w_var rfl (Ac (cz (af ((hT hd s3 I3).imp ?_))))))))))))))))))))⟩
  rintro r s4 ⟨ht, I4, F4⟩
  exact af ⟨of_decide_eq_true rfl, af ⟨of_decide_eq_true rfl, .plu ha ht, I4, (F1.trans F3).trans F4⟩⟩
theorem Su {l m k : Nat} {d : Int} (h : Is st l) (hT : 1 ≤ d → ∀ st, Is st l → Wr (C FF (m + 1) 47 [.loc l, .int (d - 1)] st) (Dr l st true k)) (hU : 1 ≤ d → ∀ st, Is st l → Wr (C FF (m + 1) 47 [.loc l, .int (d - 2)] st) (Dr l st true k)) (hA : 1 ≤ d → ∀ st, Is st l → Wr (C FF (m + 1) 48 [.loc l, .int (d - 1)] st) (Dr l st false k)) :
    Wr (C FF (m + 2) 48 [.loc l, .int d] st) (Dr l st false (k + 1)) := by
  refine Bp [some (.loc l), some (.int d), none, none, none] (b := js) rfl rfl (by decide) rfl ?_
  unfold js
  refine Af (Bf (Au (ab (w_var rfl (af ((So (n := m) h).imp ?_))))))
  rintro _ s1 ⟨⟨c, rfl⟩, I1, F1⟩
  refine ⟨of_decide_eq_true rfl, ah (Af (Bh (Cy (Bb (w_var rfl (Ac (ef ⟨_, rfl, ?_⟩)))))))⟩
  refine ⟨fun _ => fw ?_, fun hd => Bb (ao (w_var rfl (Ac (bz (by decide) (Ac (Ha ⟨_, rfl, fun _ => ?_, fun h3 => ?_⟩))))))⟩
  iterate 2
    · refine Af (Bg (Be (ab (Ac (ab (Bj (Ed (ab (Ac (ab (Ac (af ⟨of_decide_eq_true rfl, ao (ao (w_var rfl (Ac (Cg (by decide) (Ac (bz (by decide) ?_))))))⟩))))))))))))
      obtain ⟨x, e, hx⟩ := Sr (i := (c.fdiv 3).fmod 2) (fm0 (by decide)) (fm1 (by decide))
      exact Jh (xs := [W "a", W "b"]) (by simp [Am]) e (af ⟨of_decide_eq_true rfl, .arr hx, I1.ex .one, F1.trans Ex.one.fq⟩)
  have hd : 1 ≤ d := by have := of_decide_eq_false hd; omega
  refine ax (ah (Af (Bf (Au (ab (w_var rfl (ab (ao (w_var rfl (Ac (cz (af ((hA hd s1 I1).imp ?_)))))))))))))
  rintro a s2 ⟨ha, I2, F2⟩
  refine ⟨of_decide_eq_true rfl, ah (Af (Bf (Au (ab (w_var rfl (ab (ao (w_var rfl (Ac (cz (af ((hT hd s2 I2).imp ?_))))))))))))⟩
  rintro t s3 ⟨ht, I3, F3⟩
  refine ⟨of_decide_eq_true rfl, ah (Af (Bg (Be (ab (Ac (ab (w_var rfl (ab (w_var rfl (ab (Au (ab (w_var rfl (ab (ao (w_var rfl (Ac (cz (af ((hU hd s3 I3).imp ?_))))))))))))))))))))⟩
  rintro u s4 ⟨hu, I4, F4⟩
  exact af ⟨of_decide_eq_true rfl, .put ha ht hu, I4, ((F1.trans F2).trans F3).trans F4⟩
theorem ke {l : Nat} : ∀ (k : Nat), (∀ d : Int, d ≤ k → ∀ st, Is st l → Wr (C FF (n + k + 2) 47 [.loc l, .int d] st) (Dr l st true (k + 1))) ∧ (∀ d : Int, d ≤ k → ∀ st, Is st l → Wr (C FF (n + k + 2) 48 [.loc l, .int d] st) (Dr l st false (k + 1)))
 | 0 => ⟨fun d hd st h => su h (fun g => by omega) (fun g => by omega), fun d hd st h => Su h (fun g => by omega) (fun g => by omega) (fun g => by omega)⟩
 | k + 1 => by
  obtain ⟨i1, i2⟩ := ke k
  exact ⟨fun d hd st h => su (m := n + (k + 1)) h (fun _ => i1 (d - 1) (by omega)) (fun _ => i2 (d - 1) (by omega)), fun d hd st h => Su (m := n + (k + 1)) h (fun _ => i1 (d - 1) (by omega)) (fun _ => i1 (d - 2) (by omega)) (fun _ => i2 (d - 1) (by omega))⟩
end
section
variable {FF n : Nat} {st : Sto}
theorem Sv {s : Sto} {c c' : Cell} : (s ++ [c]).set s.length c' = s ++ [c'] := by simp
theorem Sw {s : Sto} {is : List Int} {x : Int} : s ++ [Cell.lst (is.map D.int ++ [.int x])] = s ++ [Cell.lst ((is ++ [x]).map D.int)] := by simp
theorem len_one {is : List Int} {x : Int} {m : Nat} (h : is.length + m = 150) (g : is.length < 150) : (is ++ [x]).length + (m - 1) = 150 := by rw [List.length_append]; show is.length + 1 + (m - 1) = 150; omega
theorem Ct {s : Sto} {c : Cell} : (s ++ [c])[s.length]? = some c := by simp
def sx : Ss := match Hc with | .cons _ (.cons _ (.cons _ r)) => r | _ => .nil
theorem Sx {c r : Int} {is : List Int} {m : Nat} (hF : 150 < FF) (hm : is.length + m = 150) : Wr (An tab (C FF n) FF sx [some (.int c), some (.int 150), some (.loc st.length), some (.int r), none, none] (st ++ [.lst (is.map .int)])) (Kf fun d s => ∃ l, d = .loc l ∧ Is s l ∧ st.length ≤ l ∧ Ex st s) := by
 unfold sx Hc
 refine (Af (Bf (ao (ao (ao (w_var rfl (Ac (Gz (Ac (Lx (by decide) (Ac (bz (by decide) ⟨of_decide_eq_true rfl, ah (Af ?_)⟩))))))))))))
 refine qi (fun m env s => ∃ (is : List Int) (v : Int) (e : Option D), env = [some (.int c), some (.int 150), some (.loc st.length), some (.int r), some (.int v), e] ∧ s = st ++ [.lst (is.map .int)] ∧ is.length + m = 150 ∧ 0 ≤ v ∧ v < 2147483647) m (by omega) ⟨is, _, _, rfl, rfl, hm, fm0 (by decide), fm1 (by decide)⟩ ?_
 clear hm is
 rintro m env s ⟨is, v, e, rfl, rfl, hm, v1, v2⟩
 refine Bb (Ee (ab (w_var rfl (af (ma (Ec Ct) (w_var rfl (ef ⟨_, rfl, fun g => ?_, fun g => ?_⟩)))))))
 · rw [List.length_map] at g
   have g := of_decide_eq_true g
   refine Af (Bf (ao (ao (w_var rfl (ao (Ac (Ee (ab (w_var rfl (af (ma (Ec Ct) (lx (by decide) (Gz (Ac (Gz ⟨of_decide_eq_true rfl, ah (Af (Bf ?_))⟩)))))))))))))))
   refine ao (ao (w_var rfl (ao (ao (w_var rfl (Ac (Cg (by decide) (Ac (Gz (Lx ?_ (Ac (bz (by decide) ⟨of_decide_eq_true rfl, ah (Af ?_)⟩))))))))))))
   · rw [Sq (by decide)]; exact ⟨by omega, by omega⟩
   generalize hw : Int.fmod _ 2147483647 = w
   have w1 : 0 ≤ w := by rw [← hw]; exact fm0 (by decide)
   have w2 : w < 2147483647 := by rw [← hw]; exact fm1 (by decide)
   refine Dq (Fw (w_var rfl ⟨qh Ct, ab (ao (ao (w_var rfl (ao (ao (w_var rfl (Ac (Cg (by decide) (Ac (Gz (lx ⟨by omega, by omega⟩ (Ac (bz (by decide) (af (Qg Ct ?_ ?_)))))))))))))))⟩))
   · rw [List.length_map]; exact Nat.lt_of_lt_of_le (by omega : is.length < 150) (by decide)
   rw [Sv]
   refine ah (ax ⟨_, m - 1, rfl, by omega, is ++ [_], w, _, rfl, Sw, len_one hm (by omega), w1, w2⟩)
 · refine ah (Af (Bg (Fw (w_var rfl ⟨?_, af ⟨.loc (st ++ [Cell.lst (is.map .int)]).length, st ++ [.lst (is.map .int)] ++ [.lst (is.map D.int).reverse], ?_, ?_⟩⟩))))
   · simp only [rdy, Ec Ct, Option.isSome_some]
   · simp only [mtD, Ec Ct]
   · exact ⟨_, rfl, ⟨is.reverse, by rw [List.map_reverse]; exact Ct, by rw [List.length_reverse]; omega⟩, by simp, Ex.app.trans Ex.app⟩
theorem ajx {c : Int} (hF : 150 < FF) : Wr (C FF (n + 1) 44 [.int c, .int 150] st) fun d s => ∃ l, d = .loc l ∧ Is s l ∧ st.length ≤ l ∧ Ex st s := by
 refine Bp [some (.int c), some (.int 150), none, none, none, none] (b := Hc) rfl rfl (by decide) rfl ?_
 unfold Hc
 refine Af (Bf (Ed (af ⟨of_decide_eq_true rfl, of_decide_eq_true rfl, ah (Af (Bf (ao (w_var rfl (Ac (Cg (by decide) ⟨of_decide_eq_true rfl, ah (Af ?_)⟩))))))⟩)))
 refine qi (fun m env s => ∃ (is : List Int) (r : Int), env = [some (.int c), some (.int 150), some (.loc st.length), some (.int r), none, none] ∧ s = st ++ [.lst (is.map .int)] ∧ is.length + m = 150) 150 hF ⟨[], _, rfl, rfl, rfl⟩ ?_
 rintro m env s ⟨is, r, rfl, rfl, hm⟩
 refine Jf (Bb (Ee (ab (w_var rfl (af (ma (Ec Ct) (w_var rfl (ef ⟨_, rfl, ?_⟩))))))))
 rw [List.length_map]
 refine ⟨fun g => ?_, fun g => Bc (ah (Sx hF hm))⟩
 have g := of_decide_eq_true g
 refine Bb (w_var rfl (Ac (Ly ⟨_, rfl, fun _ => ?_, fun _ => ah (Sx hF hm)⟩)))
 refine Af (Dq (Fw (w_var rfl ⟨qh Ct, ab (ao (w_var rfl (ao (Ac (Ac (ly (by decide) (bz (by decide) (af (Qg Ct ?_ ?_)))))))))⟩)))
 · rw [List.length_map]; exact Nat.lt_of_lt_of_le (by omega : is.length < 150) (by decide)
 rw [Sv]
 refine ah (Af (Bf (ao (w_var rfl (ao (Ac (Ac (ly (by decide) (Cg (by decide) ⟨of_decide_eq_true rfl, ah (ax ⟨_, m - 1, rfl, by omega, is ++ [_], _, rfl, Sw, len_one hm (by omega)⟩)⟩)))))))))
end
section
variable {FF n : Nat} {st : Sto}
theorem sy {m : Int} (h0 : 0 ≤ m) (h1 : m < 5) : ∃ xs, fb [.int m] = some xs ∧ (xs.length : Int) = m := by
 have : m = 0 ∨ m = 1 ∨ m = 2 ∨ m = 3 ∨ m = 4 := by omega
 rcases this with rfl | rfl | rfl | rfl | rfl <;> exact ⟨_, rfl, rfl⟩
theorem ajy {c : Int} (hF : 150 < FF) : Wr (C FF (n + 6) 49 [.int c] st) fun d s => ∃ (m : Nat) (a p : D), d = .tup [W "read", a, p] ∧ (m : Int) = (c.fdiv 2).fmod 5 ∧ Pu m a ∧ Tr true 4 p ∧ Ex st s := by
 have d1 : (c.fdiv 10).fmod 4 ≤ (3 : Nat) := by have := fm1 (a := c.fdiv 10) (b := 4) (by decide); omega
 have d2 : (c.fdiv 40).fmod 4 ≤ (3 : Nat) := by have := fm1 (a := c.fdiv 40) (b := 4) (by decide); omega
 have d3 : (c.fdiv 160).fmod 4 ≤ (3 : Nat) := by have := fm1 (a := c.fdiv 160) (b := 4) (by decide); omega
 refine Bp [some (.int c), none, none, none, none] (b := Js) rfl rfl (by decide) rfl ?_
 unfold Js
 refine Af (Bf (Au (ab (w_var rfl (ab (Ac (af ((ajx (n := n + 4) hF).imp ?_))))))))
 rintro _ s1 ⟨l, rfl, I1, hl, E1⟩
 refine ⟨of_decide_eq_true rfl, ah (Af (Bf (Be (ab (Ac (ab (Bj (Ed (ab (Ac (ab (Ac (af ⟨of_decide_eq_true rfl, ao (w_var rfl (Ac (bz (by decide) ?_)))⟩)))))))))))))⟩
 obtain ⟨x, e, hx⟩ := Sr (i := c.fmod 2) (fm0 (by decide)) (fm1 (by decide))
 refine Jh (xs := [W "a", W "b"]) (by simp [Am]) e (af ⟨of_decide_eq_true rfl, of_decide_eq_true rfl, ah (Af ?_)⟩)
 have I2 := I1.ex (.one (c := .lst [W "a", W "b"]))
 have E2 : Ex st (s1 ++ [.lst [W "a", W "b"]]) := E1.trans .one
 refine Jg (ab (ao (ao (w_var rfl (Ac (Cg (by decide) (Ac (bz (by decide) (af ?_)))))))))
 obtain ⟨xs, ex, hn⟩ := sy (m := (c.fdiv 2).fmod 5) (fm0 (by decide)) (fm1 (by decide))
 refine ⟨xs, ex, ?_⟩
 refine ic (fun j env s => (∃ a v3 v4, env = [some (.int c), some (.loc l), some a, v3, v4] ∧ Pu j a) ∧ Is s l ∧ Ex st s) (fun _ _ _ _ => rfl) ⟨⟨_, _, _, rfl, .z hx⟩, I2, E2⟩ (fun j d hd env s hj => ?_) (fun env s hj => ?_)
 · obtain ⟨⟨a, v3, v4, rfl, ha⟩, I, E⟩ := hj
   refine Ib (env' := [some (.int c), some (.loc l), some a, some d, v4]) rfl ?_
   refine Af (Bf (Au (ab (w_var rfl (ab (ao (ao (w_var rfl (Ac (Cg (by decide) (Ac (bz (by decide) (af (((ke (n := n) 3).1 _ d1 s I).imp ?_))))))))))))))
   rintro t s3 ⟨ht, I3, F3⟩
   refine ⟨of_decide_eq_true rfl, ah (Af (Bf (Be (ab (Ac (ab (w_var rfl (ab (w_var rfl (ab (Au (ab (w_var rfl (ab (ao (ao (w_var rfl (Ac (Cg (by decide) (Ac (bz (by decide) (af (((ke (n := n) 3).1 _ d2 s3 I3).imp ?_)))))))))))))))))))))))⟩
   rintro u s4 ⟨hu, I4, F4⟩
   exact af ⟨of_decide_eq_true rfl, of_decide_eq_true rfl, ah (ax ⟨_, rfl, ⟨_, _, _, rfl, .s ha ht hu⟩, I4, E.fin (F3.trans F4) hl⟩)⟩
 · obtain ⟨⟨a, v3, v4, rfl, ha⟩, I, E⟩ := hj
   refine ah (Af (Bg (Be (ab (Ac (ab (w_var rfl (ab (Au (ab (w_var rfl (ab (ao (ao (w_var rfl (Ac (Cg (by decide) (Ac (bz (by decide) (af (((ke (n := n) 3).1 _ d3 s I).imp ?_)))))))))))))))))))))
   rintro p s3 ⟨hp, I3, F3⟩
   exact af ⟨of_decide_eq_true rfl, _, a, p, rfl, hn, ha, hp, E.fin F3 hl⟩
end
section
variable {FF n : Nat} {st : Sto}
def Ke : E := match Hd with | .cons _ (.cons (.forS _ _ _ _ (.cons _ (.cons _ (.cons _ (.cons _ (.cons (.forS _ _ _ _ (.cons (.ifS e _ _) _)) _)))))) _) => e | _ => .cst .non
theorem Ms {k : Nat} {v : D} {e0 e1 e2 e3 e4 e5 : Option D} (h : Tr true k v) : Aj tab (C FF (n + 1)) Ke [e0, e1, e2, e3, e4, e5, some v] st = .ok false st := by
 cases h with
 | unk _ => kernel_rfl
 | num _ => kernel_rfl
 | wei _ _ => kernel_rfl
 | cal _ => kernel_rfl
 | plu _ _ => kernel_rfl
 | rea ha _ =>
  cases ha with
  | arr _ => kernel_rfl
  | put _ _ _ => kernel_rfl
theorem ajz {e0 e1 e2 e3 e4 e5 : Option D} : Aj tab (C FF (n + 1)) Ke [e0, e1, e2, e3, e4, e5, some (.tup [W "plus", .tup []])] st = .ok false st := by kernel_rfl
theorem aka {v : D} {e0 e1 e2 e3 e4 e5 : Option D} : Aj tab (C FF (n + 1)) Ke [e0, e1, e2, e3, e4, e5, some (.tup [W "call", W "f", .tup [v]])] st = .ok false st := by kernel_rfl
theorem not_true : cmD .notN (.bl true) (.bl true) st = .ok (.bl false) st := by kernel_rfl
theorem akb : cmD .notN (.bl false) (.bl false) st = .ok (.bl false) st := by kernel_rfl
abbrev LP (a p : D) (e2 e4 e5 e6 : Option D) : DD.Env := [some (.loc 0), some (.loc 6), e2, some (.tup [W "read", a, p]), e4, e5, e6]
theorem akc {ns : List Int} (hns : ns.length ≤ 63) : Wr (C 300 61 51 [.loc 0] [.frz (ns.map .int)]) fun d _ => d = .bl true := by
 refine Bp [some (.loc 0), none, none, none, none, none, none] (b := Hd) rfl rfl (by decide) rfl ?_
 have names := aip (FF := 300) (n := 55) (X := ns.map .int) (env := [some (.loc 0), none, none, none, none, none, none])
 unfold Hd
 refine Af (Bf (By names ⟨of_decide_eq_true rfl, ah (Af ?_)⟩))
 have H0 : Has (.frz (ns.map .int) :: ST0) := ⟨rfl, rfl, rfl⟩
 have L0 : Am (.frz (ns.map .int) :: ST0) 0 = some (ns.map .int) := rfl
 generalize (Cell.frz (ns.map .int) :: ST0 : Sto) = s0 at H0 L0 ⊢
 have hc : (cutD (ns.map D.int) none (some 8)).length ≤ 63 := by unfold cutD; simp; omega
 have ci : ∀ d ∈ cutD (ns.map D.int) none (some 8), ∃ i, d = D.int i := by
  intro d hd
  unfold cutD at hd
  obtain ⟨i, _, rfl⟩ := List.mem_map.mp (List.mem_of_mem_drop (List.mem_of_mem_take hd))
  exact ⟨i, rfl⟩
 refine lu (ao (Ia (w_var rfl (ia (Ac ⟨8, rfl, Hz (aaz (lo := none) (hi := some 8) rfl L0 ?_)⟩)))))
 generalize cutD (ns.map D.int) none (some 8) = xs at hc ci ⊢
 refine Ed (ab (Ac (af ⟨of_decide_eq_true rfl, aar (Ex.one _ _ Ct) Ct (Nat.le_trans (Nat.add_le_add_right hc 1) (by decide)) ?_⟩)))
 have H3 : Has (s0 ++ [Cell.lst xs] ++ [Cell.lst [D.int 0]] ++ [Cell.lst (xs ++ [D.int 0])]) := ((H0.ex .one).ex .one).ex .one
 have g3 : (s0 ++ [Cell.lst xs] ++ [Cell.lst [D.int 0]] ++ [Cell.lst (xs ++ [D.int 0])])[(s0 ++ [Cell.lst xs] ++ [Cell.lst [D.int 0]]).length]? = some (.lst (xs ++ [D.int 0])) := Ct
 generalize (s0 ++ [Cell.lst xs] ++ [Cell.lst [D.int 0]]).length = l3 at g3 ⊢
 generalize (s0 ++ [Cell.lst xs] ++ [Cell.lst [D.int 0]] ++ [Cell.lst (xs ++ [D.int 0])] : Sto) = s3 at g3 H3 ⊢
 refine ⟨xs ++ [.int 0], some l3, ?_, ?_⟩
 · simp only [Dn, Bool.false_eq_true, if_false, Ec g3]; rfl
 refine ic (fun i env s => (∃ e2 e3 e4 e5 e6, env = [some (.loc 0), some (.loc 6), e2, e3, e4, e5, e6]) ∧ Ex s3 s) (fun i env s h => decide_eq_true (Ec (h.2.at g3))) ⟨⟨_, _, _, _, _, rfl⟩, .refl _⟩ ?_ ?_
 · rintro j d hd env s ⟨⟨e2, e3, e4, e5, e6, rfl⟩, E3⟩
   have : ∃ c, d = .int c := by
    rcases List.mem_append.mp (List.mem_of_getElem? hd) with h | h
    · exact ci d h
    · exact ⟨0, List.mem_singleton.mp h⟩
   obtain ⟨c, rfl⟩ := this
   refine Ib (env' := [some (.loc 0), some (.loc 6), some (.int c), e3, e4, e5, e6]) rfl ?_
   refine Af (Bf (Au (ab (w_var rfl (af ((ajy (n := 54) (FF := 300) (by decide)).imp ?_))))))
   rintro _ s4 ⟨m, a, p, rfl, hm, ha, hp, E4⟩
   have m4 : m ≤ 4 := by have := fm1 (a := c.fdiv 2) (b := 5) (by decide); omega
   have H4 := (H3.ex E3).ex E4
   refine ⟨of_decide_eq_true rfl, ah (Af (Bf (ao (ao (w_var rfl (Ac (Cg (by decide) (Ac (bz (by decide) ⟨of_decide_eq_true rfl, ah (Af ?_)⟩)))))))))⟩
   obtain ⟨ys, ey, hn⟩ := sy (m := (c.fdiv 2).fmod 5) (fm0 (by decide)) (fm1 (by decide))
   refine Jg (ab (w_var rfl (af ⟨ys, ey, ?_⟩)))
   refine ic (fun j env s => (∃ a v5, env = LP a p (some (.int c)) (some (.int ((c.fdiv 2).fmod 5))) v5 e6 ∧ Pu (m - j) a) ∧ Ex s4 s) (fun _ _ _ _ => rfl) ⟨⟨_, _, rfl, ha⟩, .refl _⟩ ?_ ?_
   · rintro j d hd env s5 ⟨⟨a, v5, rfl, ha⟩, E5⟩
     have hj := (List.getElem?_eq_some_iff.mp hd).1
     rw [show m - j = m - (j + 1) + 1 by omega] at ha
     cases ha with
     | s ha ht hu =>
      refine Ib (env' := LP _ p (some (.int c)) (some (.int ((c.fdiv 2).fmod 5))) (some d) e6) rfl ?_
      refine Af (Bh (Cy (Bb (Au (ab (w_var rfl (af (By (ajp (n := 59)) (Ac (By not_true ⟨_, rfl, Bc ?_⟩))))))))))
      refine gz (jg (ab (w_var rfl (ab (w_var rfl (af ((aju (FF := 295) (n := 0) (m := m - (j + 1)) (by omega) (H4.ex E5) ha ht hu hp).imp ?_)))))))
      rintro _ s6 ⟨rfl, E6⟩
      refine ⟨true, rfl, Qf (ax (ah (Af (Bf (Au (ab (w_var rfl (af (By (Mr (n := 59)) ⟨of_decide_eq_true rfl, ah (ax ⟨_, rfl, ⟨_, _, rfl, ha⟩, E5.trans E6⟩)⟩)))))))))⟩
   · rintro env s5 ⟨⟨a, v5, rfl, ha⟩, E5⟩
     rw [show m - ys.length = 0 by omega] at ha
     cases ha with
     | z hx =>
      rename_i x
      refine ah (Af (Bh (Cy (Bb (Au (ab (w_var rfl (af (By (ajq (n := 59)) (Ac (By akb ⟨_, rfl, Bc ?_⟩)))))))))))
      refine Bb (Bj (Bj (w_var rfl (Ac (Br (d := .tup [W "unknown", .str x]) rfl (Ac (Br (d := W "unknown") rfl (Ac (Ef (by decide +kernel) (by decide +kernel) ⟨_, rfl, ?_⟩)))))))))
      rw [ee]
      refine Bc (ax (ah (Af (lu (Ed (ab (Bj (w_var rfl (Ac (Br (d := p) rfl ?_))))))))))
      refine ab (Be (ab (Ac (ab (Ac (af ⟨of_decide_eq_true rfl, ?_⟩))))))
      refine ab (Be (ab (Ac (ab (Be (af ⟨of_decide_eq_true rfl, af ⟨of_decide_eq_true rfl, ?_⟩⟩))))))
      refine ab (Be (ab (Ac (ab (Be (ab (Ac (ab (Ac (af ⟨of_decide_eq_true rfl, af ⟨of_decide_eq_true rfl, ?_⟩⟩))))))))))
      refine ab (Be (ab (Ac (ab (Ac (ab (Be (ab (w_var rfl (af ⟨of_decide_eq_true rfl, af ⟨of_decide_eq_true rfl, af ⟨of_decide_eq_true rfl, ?_⟩⟩⟩))))))))))
      have g5 : ∀ zs : List D, (s5 ++ [Cell.lst zs])[s5.length]? = some (.lst zs) := fun _ => Ct
      have hz : ∀ v ∈ [p, D.tup [W "unknown", W "x"], .tup [W "plus", .tup []], .tup [W "number", .tup [.int 1, .int 2]], .tup [W "call", W "f", .tup [.tup [W "read", .tup [W "unknown", .str x], p]]]], ∀ (s : Sto) (e0 e1 e2 e3 e4 e5 : Option D), Aj tab (C 300 60) Ke [e0, e1, e2, e3, e4, e5, some v] s = .ok false s := by
       intro v hv s e0 e1 e2 e3 e4 e5
       simp only [List.mem_cons, List.not_mem_nil, or_false] at hv
       rcases hv with rfl | rfl | rfl | rfl | rfl
       · exact Ms (n := 59) hp
       · exact Ms (n := 59) (.unk (k := 3) (by decide +kernel))
       · exact ajz (n := 59)
       · exact Ms (n := 59) (.num (k := 3) ⟨by decide, by decide, .inr (.inl ⟨rfl, rfl⟩)⟩)
       · exact aka (n := 59)
      generalize [p, D.tup [W "unknown", W "x"], .tup [W "plus", .tup []], .tup [W "number", .tup [.int 1, .int 2]], .tup [W "call", W "f", .tup [.tup [W "read", .tup [W "unknown", .str x], p]]]] = zs at hz ⊢
      refine ⟨zs, some s5.length, ?_, ?_⟩
      · simp only [Dn, Bool.false_eq_true, if_false, Ec (g5 zs)]; rfl
      refine ic (fun i env s => (∃ e6, env = LP (.tup [W "unknown", .str x]) p (some (.int c)) (some (.int ((c.fdiv 2).fmod 5))) v5 e6) ∧ s = s5 ++ [Cell.lst zs]) (fun i env s h => by rw [h.2]; exact decide_eq_true (Ec (g5 zs))) ⟨⟨_, rfl⟩, rfl⟩ ?_ ?_
      · rintro i v hv env s ⟨⟨e6, rfl⟩, rfl⟩
        refine Ib (env' := LP (.tup [W "unknown", .str x]) p (some (.int c)) (some (.int ((c.fdiv 2).fmod 5))) v5 (some v)) rfl ?_
        exact Af (Bh (By (hz v (List.mem_of_getElem? hv) _ _ _ _ _ _ _) (Bc (ax (ah (ax ⟨_, rfl, ⟨_, rfl⟩, rfl⟩))))))
      · rintro env s ⟨⟨e6, rfl⟩, rfl⟩
        exact ah (ax ⟨_, rfl, ⟨_, _, _, _, _, rfl⟩, (E3.trans E4).trans (E5.trans .one)⟩)
 · rintro env s ⟨⟨e2, e3, e4, e5, e6, rfl⟩, E3⟩
   exact ah (Af (Bg (Ac rfl)))
end
abbrev calls : Nat := 61
theorem akd : ∀ ns : List Int, ns.length ≤ 63 → ∃ FF st, mr FF calls [.loc 0] [.frz (ns.map D.int)] = .ok (.bl true) st := fun ns h => by
 obtain ⟨d, s, e, rfl⟩ := akc h
 exact ⟨300, s, e⟩
end My
open PySem PySem.W PyProof.Rows
set_option maxRecDepth 100000 in
set_option maxHeartbeats 0 in
theorem PySem.Challenge.cw_partproof_k41_hits_misses_needs_holds : PySem.Challenge.rw_partproof_k41_hits_misses_needs.Holds := by
 refine holds_law (by kernel_rfl) fun said => holds_open (XP := XL HD.q []) (YP := InK HD.Kf) HD.hl HD.H.of HD.H.keeps (fun s e => xl_of s (Bool.and_eq_true_iff.mp e).1) XL.keeps (by rfl) (by rfl) (by rfl) (fun s e => recFacts_of (Bool.and_eq_true_iff.mp e).2) (by rfl) said (by decide +kernel) ⟨rfl, rfl, rfl, rfl, rfl, by decide +kernel⟩ ?hw ?hc
 case hw => w_witness2
 k_fill
 refine My.walk (n := My.calls) (l := PySem.Challenge.rw_partproof_k41_hits_misses_needs) rfl rfl rfl ⟨rfl, by decide, by decide⟩ (fun _ _ Y => Y) ?lawTop ?lawEnd
 case lawTop =>
  intro w mg h KX G
  refine' My.aio w KX G ?_ ?_ ?_ ?_ ?_ ?_ ?_ ?_ ?_ ?_ ?_ ?_ ?_ ?_ ?_ ?_ ?_ ?_ ?_ ?_ ?_ ?_ ?_ ?_ ?_ ?_ ?_ ?_ ?_ ?_ ?_ ?_ ?_ ?_ ?_ ?_ ?_ ?_ ?_ ?_ ?_ ?_ ?_ ?_ ?_ ?_ ?_ ?_ ?_ ?_ ?_ ?_ ?_ ?_ ?_ ?_ ?_ ?_ ?_ ?_ ?_ ?_ ?_ ?_ ?_ ?_ ?_ ?_ ?_ ?_ ?_ ?_ ?_ ?_ ?_ ?_ ?_ ?_ ?_ ?_ ?_ ?_ ?_ ?_ ?_ ?_ ?_ ?_ ?_ ?_ ?_ ?_ ?_ ?_ ?_ ?_ ?_ ?_ ?_ ?_ ?_ ?_ ?_ ?_ ?_ ?_ ?_ ?_ ?_ ?_ ?_ ?_ ?_ ?_ ?_ ?_ ?_ ?_ ?_ ?_ ?_ ?_ ?_ ?_ ?_ ?_ ?_ ?_ ?_ ?_ ?_ ?_ ?_ ?_ ?_ ?_ ?_ ?_ ?_ ?_ ?_ ?_ ?_ ?_ ?_ ?_ ?_ ?_ ?_ ?_ ?_ ?_ ?_ ?_ ?_ ?_ ?_ ?_ ?_ ?_ ?_ ?_ ?_ ?_ ?_ ?_ ?_ ?_ ?_ ?_ ?_ ?_ ?_ ?_ ?_ ?_ ?_ ?_ ?_ ?_ ?_ ?_ ?_ ?_ ?_ ?_ ?_ ?_ ?_ ?_ ?_ ?_ ?_ ?_ ?_ ?_ ?_ ?_ ?_ ?_ ?_ ?_ ?_ ?_ ?_ ?_ ?_ ?_ ?_ ?_ ?_ ?_ ?_ ?_ ?_ ?_ ?_
  any_goals k_is
  any_goals first | k_exc | kit_is | kts_exm | rfl
 case lawEnd => exact My.akd
