import PyProof.Rows.All
import Wide.All
import OpenK.AllK
import Wide.FinOn
import Lean
import PyProof.EqAt
import PyProof.EqKinds
import PyProof.TupleCall
import PyProof.NsDelKeeps
import KE.KDictLaws
import KE.KDictList
import PyProof.Rows.SetFrom
import PySem.Challenge.RW_partproof_k03_names_refused
set_option Elab.async false
set_option linter.all false
set_option maxRecDepth 100000
set_option maxHeartbeats 4000000
noncomputable section
namespace HD
open PySem PySem.W PyProof.Rows
def go (ok : Thread → Bool) (st : SharedT → Thread → Option (SharedT × Thread)) (n : Nat) : SharedT → Thread → Option SharedT :=
 Nat.rec (fun _ _ => none) (fun _ ih s t => match through t with
  | true => some s
  | false => match ok t with
   | false => none
   | true => match st s t with
    | some (s, t) => ih s t
    | none => none) n
theorem gr {tb p w a b} : ∀ (n : Nat) (s t s'), go (stepOk a b) (stepT (denote tb) p w) n s t = some s' → topRun tb p w a b n s.abs t = some s'.abs
 | 0, _, _, _, h => by cases h
 | n + 1, s, t, s', h => by
  have h : (match through t with
   | true => some s
   | false => match stepOk a b t with
    | false => none
    | true => match stepT (denote tb) p w s t with
     | some (s, t) => go (stepOk a b) (stepT (denote tb) p w) n s t
     | none => none) = some s' := h
  unfold topRun
  revert h
  cases through t with
  | true => intro h; cases h; rfl
  | false => cases stepOk a b t with
   | false => intro h; cases h
   | true =>
    dsimp only
    cases e : stepT (denote tb) p w s t with
    | none => intro h; cases h
    | some r => intro h; rw [stepT_spec e]; exact gr n r.1 r.2 s' h
def S0 (w : World) (os : OsState) : SharedT := ⟨(boot_heap w.params).objs.toList.zipIdx.foldl (fun t x => t.ins x.2 x.1) .nil, 11, (boot_heap w.params).life, #[], boot_drawn, boot_toks, os⟩
theorem s0 (w os) : (S0 w os).abs = ⟨boot_heap w.params, #[], boot_drawn, boot_toks, os⟩ := by kernel_rfl
theorem bs (w : World) : ((boot_heap w.params).isNs mainGlobals && (#[] : Array GenState).size == 0, (boot_heap w.params).objs.size, (boot_heap w.params).nsMap mainGlobals "__annotations__") = (true, 11, some (.ref 6)) := by kernel_rfl
abbrev run (p : Program) (N : Nat) (w : World) (os : OsState) := go (Fast.tw6613529449190102663 11 (some (.ref 6))) (Fast.tw10156331382660048174 (Fast.tw11892475500146522536 Fast.tw14364793385576792824) p w) N (S0 w os) (topStub p)
abbrev Is {α : Type} (p : Program) (N : Nat) (w : World) (f : Shared → α) (a : α) : Prop := ∀ os, (run p N w os).map (fun s => f s.abs) = some a
abbrev Ends (p : Program) (w : World) (s : Shared) := staticsOk (importedModules p.main.body) (boot_heap w.params) s.heap && namesBound p s.heap && gensDone s && laidKept (boot_heap w.params) s.heap
theorem left {α : Type} {p q loose Xt N} {Yf : Shared → α} {Ya} (e : opening p = plainProg p.main.scope.names) (hN : Nat.ble 600 N = true) (f : ∀ s, fenceModules? p s = some s)
  (h1 : ∀ w, Is p N w (Ends p w) true) (h2 : ∀ w, Is p N w (Fast.tw4187177175401517315 q loose (importedModules p.main.body) Xt true) (openGood q loose)) (h3 : ∀ w, Is p N w Yf (Ya w)) : LeftO p q loose Xt Yf Ya N := fun w => by
 obtain ⟨⟨hp, gs, d, k, os⟩, e1, e2⟩ := Option.map_eq_some_iff.mp (boot_open e hN f w)
 obtain ⟨rfl, rfl, rfl, rfl⟩ : hp = boot_heap w.params ∧ gs = #[] ∧ d = boot_drawn ∧ k = boot_toks := by simpa using e2
 obtain ⟨z1, z2, z3⟩ : _ ∧ _ ∧ _ := by simpa only [Prod.mk.injEq] using bs w
 obtain ⟨s, g, l1⟩ := Option.map_eq_some_iff.mp (h1 w os)
 have l2 := h2 w os
 have l3 := h3 w os
 rw [g] at l2 l3
 replace l2 := Option.some.inj l2
 rw [← Fast.te4187177175401517315] at l2
 unfold run at g
 rw [← Fast.te6613529449190102663, ← Fast.te10156331382660048174, ← Fast.te11892475500146522536, ← Fast.te14364793385576792824] at g
 have r := gr _ _ _ _ g
 rw [s0] at r
 unfold openEnds
 rw [e1]
 show Option.map _ (topFrom treeTable p w N _) = _
 have t : topFrom treeTable p w N ⟨boot_heap w.params, #[], boot_drawn, boot_toks, os⟩ = some s.abs := by
  unfold topFrom
  dsimp only
  rw [z1, z2, z3, r]
  show (match Ends p w s.abs with | true => _ | false => _) = _
  rw [l1]
 rw [t]
 exact congrArg some (congr (congrArg Prod.mk l2) (Option.some.inj l3))
abbrev pw := PySem.Challenge.pw_partproof_k03_names_refused
abbrev r := Value.ref
abbrev y := Value.type
abbrev z (x : String) (t : Nat) : Value := .str (.ofString x) t
abbrev n (i : Int) (t : Nat) : Value := .int i t
abbrev J := List (Str × Nat × Value)
def D (P : Params) (k : Nat) (l : J) : Obj := ⟨y "dict", none, .dict (l.map fun x => ⟨PyData.keyHash P x.1, .str x.1 x.2.1, x.2.2⟩).toArray k, #[]⟩
def j (v : Value) (l : J) : J := ([("__name__", 165, v), ("__doc__", 166, .none), ("__package__", 167, .none), ("__loader__", 168, .builtin "__main__.__loader__#opaque"), ("__spec__", 169, .none), ("__annotations__", 170, r 6), ("__builtins__", 171, r 4), ("__file__", 173, z "/claim/cut.py" 172), ("__cached__", 174, .none)] : J) ++ l
def v (x : String) (t : Nat) (w : Value) : Str × Nat × Value := (.ofString x, t, w)
def g (i : Nat) : Stmt := pw.main.body.getD i (.Pass ⟨0, 0, 0, 0⟩)
def G (i j : Nat) : Stmt := match g i with
 | .ClassDef _ _ _ b _ _ _ _ _ _ _ => b.getD j (.Pass ⟨0, 0, 0, 0⟩)
 | s => s
def C (s : Stmt) (q : Str → Str) (a t u : Nat) (l : List Value) : Obj := match s with
 | .FunctionDef x p _ _ _ _ _ _ _ h => ⟨y "code", none, .fields ([.str x t, .str (q x) (t + 1), z "/claim/cut.py" (t + 2), n h.line 0, n p.args.length 0, n 0 0, n 0 0, n 3 0, r a, .bool true, n 181 0, r (a + 1), .none] ++ l ++ [n u 0, n h.line 0, z "/claim/cut.py" (u + 1)]).toArray, #[]⟩
 | _ => default
def F (s : Stmt) (q : Str → Str) (k : Nat) (m v : Value) : Obj := match s with
 | .FunctionDef x p b _ _ _ c _ _ _ => ⟨y "function", none, .func (fnOf x (q x) p b c v .none .none m none (r k) .none), #[]⟩
 | _ => default
def c (i a t u : Nat) : Obj := C (g i) id a t u [r (a + 2), r (a + 3), r (a + 4)]
def b (i a t u : Nat) : Obj := C (g i) id a t u [.none, .none, r (a + 2)]
def f (i k : Nat) (m : Value) (v := Value.none) : Obj := F (g i) id k m v
def t (l : List Value) : Obj := ⟨y "tuple", none, .seq l.toArray 0, #[]⟩
def X (x q : String) (b m : List Value) (k : Addr) (s : List Value) (l : List (Option Value)) : Obj := ⟨y "type", none, .cls { name := .ofString x, bases := b, mro := m, ns := k, qualname := .ofString q, subclasses := s }, l.toArray⟩
def d (P : Params) (a t l : Nat) (m : Value) : Obj := D P 2 [("__module__", t + 7, m), ("__firstlineno__", t + 11, n l (t + 10)), ("__static_attributes__", t + 12, r (a + 7)), ("__doc__", t + 13, .none)]
def E (x : String) (b : Addr) (a t : Nat) (s : List Value := []) : Obj := X x x [r b] ([r (a + 9), r b, y "ValueError", y "Exception", y "BaseException", y "object"]) (a + 8) s [some (r a), none, some (z x t), some (z x (t + 8)), some (.builtin "ValueError.__new__"), some (.bool true)]
def m0 := z "__main__" 164
def m1 := z "partproof.errors" 194
def m2 := z "partproof.fractions" 326
def m3 := z "partproof.names" 335
def m4 := z "law_partproof_k03_names_refused" 511
def Kf (P : Params) : Frag := (nat_lit 3,D P 47 (j m4 [v "_wall" 193 (r 21),v "PartError" 213 (r 31),v "BadNames" 229 (r 44),v "BadTerm" 245 (r 56),v "BadStatement" 261 (r 68),v "NotTold" 277 (r 80),v "NoText" 293 (r 92),v "NoRow" 309 (r 104),v "NoNumber" 325 (r 116),v "is_whole" 334 (r 125),v "LETTERS" 338 (z "abcdefghijklmnopqrstuvwxyz" 337),v "LONGEST_NAME" 340 (n 8 339),v "WIDEST_BOUNDS" 342 (n 60 341),v "MOST_VALUES" 344 (n 3600 343),v "MOST_KINDS" 346 (n 3 345),v "is_name" 352 (r 130),v "is_row" 359 (r 137),v "is_kind" 366 (r 144),v "is_list_of_names" 372 (r 149),v "is_bounded" 379 (r 156),v "is_function" 385 (r 161),v "check_wholes" 391 (r 166),v "check_functions" 397 (r 171),v "check_names" 404 (r 178),v "first_parts" 410 (r 183),v "check_unlike" 417 (r 190),v "Names" 510 (r 261),v "_law_cell_at" 520 (r 272),v "_law_names" 536 (r 279),v "_law_said" 546 (r 286),v "_law_lists" 552 (r 291),v "_law_no_name" 561 (r 298),v "_law_no_stretch" 572 (r 305),v "_law_no_function" 582 (r 312),v "_law_put" 588 (r 317),v "_law_many_values" 594 (r 322),v "_law_case" 600 (r 327),v "law" 612 (r 334)]))::(nat_lit 43,d P 35 214 7 m1)::(nat_lit 44,E "BadNames" 31 35 214)::(nat_lit 55,d P 47 230 9 m1)::(nat_lit 56,E "BadTerm" 31 47 230)::(nat_lit 67,d P 59 246 11 m1)::(nat_lit 68,E "BadStatement" 31 59 246)::(nat_lit 79,d P 71 262 13 m1)::(nat_lit 80,E "NotTold" 31 71 262)::(nat_lit 91,d P 83 278 15 m1)::(nat_lit 92,E "NoText" 31 83 278)::(nat_lit 103,d P 95 294 17 m1)::(nat_lit 104,E "NoRow" 31 95 294)::(nat_lit 115,d P 107 310 19 m1)::(nat_lit 116,E "NoNumber" 31 107 310)::(nat_lit 20,c 0 15 187 191)::(nat_lit 21,f 0 20 m0)::(nat_lit 30,D P 3 [v "__module__" 203 (z "partproof.errors" 194),v "__firstlineno__" 207 (n 5 206),v "__static_attributes__" 208 (r 29),v "__weakref__" 210 (r 32),v "__doc__" 211 .none])::(nat_lit 31,X "PartError" "PartError" [(y "ValueError")] [(r 31),(y "ValueError"),(y "Exception"),(y "BaseException"),(y "object")] 30 [(r 44),(r 56),(r 68),(r 80),(r 92),(r 104),(r 116)] [some (r 22),none,some (z "PartError" 196),some (z "PartError" 204),some (.builtin "ValueError.__new__"),some (.bool true)])::(nat_lit 124,c 11 119 328 332)::(nat_lit 125,f 11 124 m2)::(nat_lit 129,b 18 126 347 350)::(nat_lit 130,f 18 129 m3)::(nat_lit 136,c 19 131 353 357)::(nat_lit 137,f 19 136 m3)::(nat_lit 143,c 20 138 360 364)::(nat_lit 144,f 20 143 m3)::(nat_lit 148,b 21 145 367 370)::(nat_lit 149,f 21 148 m3)::(nat_lit 155,c 22 150 373 377)::(nat_lit 156,f 22 155 m3)::(nat_lit 160,b 23 157 380 383)::(nat_lit 161,f 23 160 m3)::(nat_lit 165,b 24 162 386 389)::(nat_lit 166,f 24 165 m3)::(nat_lit 170,b 25 167 392 395)::(nat_lit 171,f 25 170 m3)::(nat_lit 177,c 26 172 398 402)::(nat_lit 178,f 26 177 m3)::(nat_lit 182,b 27 179 405 408)::(nat_lit 183,f 27 182 m3)::(nat_lit 189,c 28 184 411 415)::(nat_lit 190,f 28 189 m3)::(nat_lit 201,C (G 29 0) (fun _ => "Names.__init__") 198 430 433 [.none,.none,r 200])::(nat_lit 202,F (G 29 0) (fun _ => "Names.__init__") 201 m3 .none)::(nat_lit 208,C (G 29 1) (fun _ => "Names.all_numbers") 203 436 440 [r 205,r 206,r 207])::(nat_lit 209,F (G 29 1) (fun _ => "Names.all_numbers") 208 m3 .none)::(nat_lit 215,C (G 29 2) (fun _ => "Names.all_wholes") 210 443 447 [r 212,r 213,r 214])::(nat_lit 216,F (G 29 2) (fun _ => "Names.all_wholes") 215 m3 .none)::(nat_lit 222,C (G 29 3) (fun _ => "Names.all_things") 217 450 454 [r 219,r 220,r 221])::(nat_lit 223,F (G 29 3) (fun _ => "Names.all_things") 222 m3 .none)::(nat_lit 229,C (G 29 4) (fun _ => "Names.all_functions") 224 457 461 [r 226,r 227,r 228])::(nat_lit 230,F (G 29 4) (fun _ => "Names.all_functions") 229 m3 .none)::(nat_lit 236,C (G 29 5) (fun _ => "Names.all_arrays") 231 464 468 [r 233,r 234,r 235])::(nat_lit 237,F (G 29 5) (fun _ => "Names.all_arrays") 236 m3 .none)::(nat_lit 243,C (G 29 6) (fun _ => "Names.kind") 238 471 476 [r 240,r 241,r 242])::(nat_lit 244,F (G 29 6) (fun _ => "Names.kind") 243 m3 .none)::(nat_lit 250,C (G 29 7) (fun _ => "Names.bounds") 245 479 484 [r 247,r 248,r 249])::(nat_lit 251,F (G 29 7) (fun _ => "Names.bounds") 250 m3 .none)::(nat_lit 257,C (G 29 8) (fun _ => "Names.function") 252 487 492 [r 254,r 255,r 256])::(nat_lit 258,F (G 29 8) (fun _ => "Names.function") 257 m3 .none)::(nat_lit 260,D P 4 [v "__module__" 425 (z "partproof.names" 335),v "__firstlineno__" 429 (n 67 428),v "__init__" 435 (r 202),v "all_numbers" 442 (r 209),v "all_wholes" 449 (r 216),v "all_things" 456 (r 223),v "all_functions" 463 (r 230),v "all_arrays" 470 (r 237),v "kind" 478 (r 244),v "bounds" 486 (r 251),v "function" 494 (r 258),v "__static_attributes__" 503 (r 259),v "__dict__" 505 (r 262),v "__weakref__" 507 (r 263),v "__doc__" 508 .none])::(nat_lit 261,X "Names" "Names" [(y "object")] [(r 261),(y "object")] 260 [] [none,none,some (z "Names" 418),some (z "Names" 426),some (.builtin "object.__new__"),some (.bool true)])::(nat_lit 271,c 31 266 513 518)::(nat_lit 272,f 31 271 m4)::(nat_lit 278,c 32 273 521 534)::(nat_lit 279,f 32 278 m4)::(nat_lit 285,c 33 280 537 544)::(nat_lit 286,f 33 285 m4)::(nat_lit 290,b 34 287 547 550)::(nat_lit 291,f 34 290 m4)::(nat_lit 297,c 35 292 553 559)::(nat_lit 298,f 35 297 m4)::(nat_lit 304,c 36 299 562 570)::(nat_lit 305,f 36 304 m4)::(nat_lit 311,c 37 306 573 580)::(nat_lit 312,f 37 311 m4)::(nat_lit 316,b 38 313 583 586)::(nat_lit 317,f 38 316 m4)::(nat_lit 321,b 39 318 589 592)::(nat_lit 322,f 39 321 m4)::(nat_lit 326,b 40 323 595 598)::(nat_lit 327,f 40 326 m4)::(nat_lit 333,c 41 328 601 610)::(nat_lit 334,f 41 333 m4)::[]
abbrev as : List Addr := [3,43,44,55,56,67,68,79,80,91,92,103,104,115,116,20,21,30,31,124,125,129,130,136,137,143,144,148,149,155,156,160,161,165,166,170,171,177,178,182,183,189,190,201,202,208,209,215,216,222,223,229,230,236,237,243,244,250,251,257,258,260,261,271,272,278,279,285,286,290,291,297,298,304,305,311,312,316,317,321,322,326,327,333,334]
def q : Program := view pw ((List.range 42).filter fun i => ![1,10,12,30].contains i)
abbrev lo : List Str := []
abbrev H : Hook := kHook Kf as fun _ => by kernel_rfl
abbrev Xt (s : Shared) := xlAt q [] s && recOk (RowW.records PySem.Challenge.rw_partproof_k03_names_refused.row.toRowW) s
abbrev k1 (w : World) := Is pw 2990 w (Ends pw w) true
abbrev k2 (w : World) := Is pw 2990 w (Fast.tw4187177175401517315 q lo (importedModules pw.main.body) Xt true) (openGood q lo)
abbrev k3 (w : World) := Is pw 2990 w H.obs (H.val w)
theorem k1t (w : World) : k1 w := fun _ => by kernel_rfl
theorem k2t (w : World) : k2 w := fun _ => by kernel_rfl
theorem k3t (w : World) : k3 w := fun _ => by kernel_rfl
theorem hl : LeftO pw q lo Xt H.obs H.val 2990 := left (by kernel_rfl) (by decide) (fun s => by kernel_rfl) k1t k2t k3t
end HD
end
noncomputable section
namespace L2
open PySem PySem.Spec PyProof.Rows
abbrev Key := Sum Int Str
def gj : Key → Value → Bool
 | .inl k, v => Value.isInt k v
 | .inr x, v => Value.isStrOf x v
def uc (w : World) : Key → Int
 | .inl k => hashInt k
 | .inr x => hashStr w x
theorem Eo : ∀ {k : Key} {v : Value}, gj k v = true → (∃ i t, k = Sum.inl i ∧ v = Value.int i t) ∨ (∃ x t, k = Sum.inr x ∧ v = Value.str x t)
 | .inl i, v, h => by
  obtain ⟨t, e⟩ := Value.isInt_shape (k := i) (v := v) h
  exact .inl ⟨i, t, rfl, e⟩
 | .inr x, v, h => by
  obtain ⟨t, e⟩ := Value.isStrOf_shape (x := x) (v := v) h
  exact .inr ⟨x, t, rfl, e⟩
theorem Uc (i : Int) (t : Tok) : gj (.inl i) (.int i t) = true := by simp [gj, Value.isInt]
theorem ud (x : Str) (t : Tok) : gj (.inr x) (.str x t) = true := by simp [gj, Value.isStrOf]
theorem Ud (a b : Int) : decide ((Sum.inl a : Key) = Sum.inl b) = (a == b) := by
 by_cases e : a = b
 · subst e; simp
 · have h : ¬ (Sum.inl a : Key) = Sum.inl b := fun q => e (Sum.inl.inj q)
   rw [decide_eq_false h]
   exact (beq_eq_false_iff_ne.mpr e).symm
theorem ue (a b : Str) : decide ((Sum.inr a : Key) = Sum.inr b) = decide (a = b) := by
 by_cases e : a = b
 · subst e; simp
 · have h : ¬ (Sum.inr a : Key) = Sum.inr b := fun q => e (Sum.inr.inj q)
   rw [decide_eq_false h, decide_eq_false e]
theorem Ue (a : Int) (b : Str) : decide ((Sum.inl a : Key) = Sum.inr b) = false := decide_eq_false (fun q => nomatch q)
theorem uf (a : Str) (b : Int) : decide ((Sum.inr a : Key) = Sum.inl b) = false := decide_eq_false (fun q => nomatch q)
def Ck (prog : Program) (w : World) : PySem.KeyKind prog w Key where
 is := gj
 hash := uc w
 inj := fun v a b ha hb => by
  rcases Eo ha with ⟨i, t, rfl, rfl⟩ | ⟨x, t, rfl, rfl⟩
  · rcases Eo hb with ⟨j, u, rfl, e⟩ | ⟨y, u, rfl, e⟩
    · injection e with e1 _; rw [e1]
    · exact nomatch e
  · rcases Eo hb with ⟨j, u, rfl, e⟩ | ⟨y, u, rfl, e⟩
    · exact nomatch e
    · injection e with e1 _; rw [e1]
 byValue := fun k v h => by
  rcases Eo h with ⟨i, t, rfl, rfl⟩ | ⟨x, t, rfl, rfl⟩ <;> rfl
 pyHash := fun hv h => by
  rcases Eo hv with ⟨i, t, rfl, rfl⟩ | ⟨x, t, rfl, rfl⟩
  · exact wpAny_pyHash_int h
  · exact wpAny_pyHash_str h
 eqBool := fun hu hv h => by
  rcases Eo hu with ⟨i, t, rfl, rfl⟩ | ⟨x, t, rfl, rfl⟩
  · rcases Eo hv with ⟨j, u, rfl, rfl⟩ | ⟨y, u, rfl, rfl⟩
    · rw [Ud] at h; exact wpAny_eqBool_int h
    · rw [Ue] at h; exact SeqAt.EqAt.int_str i t y u _ _ _ _ h
  · rcases Eo hv with ⟨j, u, rfl, rfl⟩ | ⟨y, u, rfl, rfl⟩
    · rw [uf] at h; exact SeqAt.EqAt.str_int x t j u _ _ _ _ h
    · rw [ue] at h; exact wpAny_eqBool_str h
 «strs» := fun k x t v h => by
  rcases Eo h with ⟨i, u, rfl, e⟩ | ⟨y, u, rfl, e⟩
  · exact nomatch e
  · injection e with e1 _
    subst e1
    cases v <;> rfl
theorem ug (prog : Program) (w : World) (i : Int) (t : Tok) : (Ck prog w).is (.inl i) (.int i t) = true := Uc i t
theorem Ug (prog : Program) (w : World) (x : Str) (t : Tok) : (Ck prog w).is (.inr x) (.str x t) = true := ud x t
end L2
namespace L2
open PySem PySem.Spec PyProof.Rows
inductive V where
 | non | bl (b : Bool) | int (i : Int) | str (x : Str) | byt (b : Array UInt8) | flt (b : UInt64) | ref (a : Addr) | ty (n : String)
 deriving DecidableEq
def RelV : V → Value → Prop
 | .non, u => u = Value.none
 | .bl b, u => u = Value.bool b
 | .int i, u => ∃ t, u = Value.int i t
 | .str x, u => ∃ t, u = Value.str x t
 | .byt b, u => ∃ t, u = Value.bytes b t
 | .flt b, u => ∃ t, u = Value.float b t
 | .ref a, u => u = Value.ref a
 | .ty n, u => u = Value.type n
abbrev Vals : List V → List Value → Prop := Paired RelV
theorem Vals.length {xs : List V} {us : List Value} (r : Vals xs us) : xs.length = us.length := Paired.length r
theorem Vals.get : ∀ {xs : List V} {us : List Value} {i : Nat} {x : V}, Vals xs us → xs[i]? = some x → ∃ u, us[i]? = some u ∧ RelV x u
 | _, _, _, _, .nil, e => by simp at e
 | _, _, 0, _, .cons r _, e => by simp at e; subst e; exact ⟨_, rfl, r⟩
 | _, _, i + 1, x, .cons _ t, e => by
  obtain ⟨u, h1, h2⟩ := Vals.get (i := i) (x := x) t (by simpa using e)
  exact ⟨u, by simpa using h1, h2⟩
theorem Vals.set (r : RelV x u) : ∀ {xs : List V} {us : List Value} (i : Nat), Vals xs us → Vals (xs.set i x) (us.set i u)
 | _, _, _, .nil => .nil
 | _, _, 0, .cons _ t => .cons r t
 | _, _, i + 1, .cons q t => .cons q (Vals.set r i t)
theorem Vals.append : ∀ {xs ys : List V} {us ws : List Value}, Vals xs us → Vals ys ws → Vals (xs ++ ys) (us ++ ws)
 | _, _, _, _, .nil, s => s
 | _, _, _, _, .cons r t, s => .cons r (Vals.append t s)
theorem Vals.take : ∀ {xs : List V} {us : List Value} (n : Nat), Vals xs us → Vals (xs.take n) (us.take n)
 | _, _, 0, _ => .nil
 | _, _, _ + 1, .nil => .nil
 | _, _, n + 1, .cons r t => .cons r (Vals.take n t)
theorem Vals.drop : ∀ {xs : List V} {us : List Value} (n : Nat), Vals xs us → Vals (xs.drop n) (us.drop n)
 | _, _, 0, r => r
 | _, _, _ + 1, .nil => .nil
 | _, _, n + 1, .cons _ t => Vals.drop n t
def Df : Option V → Option Value → Prop
 | some v, some u => RelV v u
 | none, none => True
 | _, _ => False
def KV {κ : Type} : List (κ × V) → List (κ × Value) → Prop := Paired fun (p : κ × V) (q : κ × Value) => p.1 = q.1 ∧ RelV p.2 q.2
def kV : Key → V
 | .inl i => .int i
 | .inr x => .str x
inductive HO where
 | lst (xs : List V)
 | tup (xs : List V)
 | dK (kvs : List (Key × V)) | dT (kvs : List (List Key × V))
 | set (S : Int → Bool) (n : Nat)
 | ins (C dx : Addr) (fs : List (Str × V))
 | own (x : Addr)
 | xd (fs : List (Str × V))
 | met (f x : Addr)
 | rng (lo hi : Int)
 | frz (o : Obj) (u : HO)
 | tbl (ps : Array Value)
 | ext (φ : Heap → Prop)
abbrev Hp := Addr → Option HO
def upd (H : Hp) (a : Addr) (o : HO) : Hp := fun b => if b = a then some o else H b
theorem Cb : upd H a o a = some o := by unfold upd; rw [if_pos rfl]
theorem Ax (h : b ≠ a) : upd H a o b = H b := by unfold upd; rw [if_neg h]
theorem jf {H : Hp} {a b : Addr} {o u : HO} (h : H a = some o) (h' : H b = some u) (d : o ≠ u) : a ≠ b := by
 intro e; subst e; rw [h] at h'; exact d (Option.some.inj h')
theorem Gj {H : Hp} {a b : Addr} {o : HO} (h : H a = some o) (h' : H b = none) : a ≠ b := by
 intro e; subst e; rw [h] at h'; cases h'
section
variable (P : Program) (w : World)
def bg (H : Hp) (h : Heap) (a : Addr) : HO → Prop
  | .lst xs => xs.length ≤ sizeLine ∧ ∃ (its : List Value) (n : Nat), Vals xs its ∧ h.get? a = some { cls := .type "list", data := .seq its.toArray n }
  | .tup xs => xs.length ≤ sizeLine ∧ ∃ its : List Value, Vals xs its ∧ IsTup h a its.toArray
  | .dK kvs => kvs.length ≤ sizeLine ∧ (a == sysModules) = false ∧ ∃ vs, KV kvs vs ∧ h.DictOf (Ck P w) a vs
  | .dT kvs => kvs.length ≤ sizeLine ∧ (a == sysModules) = false ∧ ∃ xs : List (List Key × Addr × Value),
      Paired (fun (p : List Key × V) (q : List Key × Addr × Value) => p.1 = q.1 ∧ H q.2.1 = some (.tup (p.1.map kV)) ∧ RelV p.2 q.2.2) kvs xs ∧
      ∃ o es ep, h.get? a = some o ∧ o.ExactDict ∧ o.data = .dict es ep ∧ es.toList = xs.map (entryOfKey (tupleKind (Ck P w))) ∧ (xs.map (·.1)).Nodup
  | .set S n => h.SetOf (intKind P w) a S n
  | .ins C dx fs => H dx = some (.own a) ∧ fs.length ≤ 1000 ∧ dx ≠ a ∧ h.get? a = some (PySem.W.instObj C dx) ∧
      ∃ mA, h.Ns1 dx mA ∧ (∀ f, Df (fs.lookup f) (mA f)) ∧ PySem.Within mA (fs.map (·.1))
  | .own _ => ∃ o, h.get? a = some o
  | .xd fs => ∃ mA, h.Ns1 a mA ∧ ∀ f, Df (fs.lookup f) (mA f)
  | .rng lo hi => ∃ t u v, h.get? a = some { cls := .type "range", data := .fields #[.int lo t, .int hi u, .int 1 v] }
  | .frz o u => h.get? a = some o ∧ bg H h a u
  | .tbl ps => h.get? a = some { cls := .none, data := .fields ps }
  | .met f x => h.get? a = some (PySem.W.methodObj (.ref f) (.ref x))
  | .ext φ => φ h ∧ (∃ o, h.get? a = some o) ∧ ∀ h1 h2 : Heap, φ h1 → (∀ o, h1.get? a = some o → h2.get? a = some o) → φ h2
def HOk (H : Hp) (h : Heap) : Prop := ∀ a o, H a = some o → bg P w H h a o
end
section
variable {P : Program} {w : World} {H H' : Hp} {h h' : Heap} {a : Addr} {o : HO}
theorem bg.lt (x : bg P w H h a o) : a < h.objs.size := by
 cases o with
 | lst xs => obtain ⟨_, _, _, _, e⟩ := x; exact Heap.lt_size e
 | tup xs => obtain ⟨_, _, _, p⟩ := x; exact p.lt
 | dK kvs => obtain ⟨_, _, _, _, o, _, _, e, _⟩ := x; exact Heap.lt_size e
 | dT kvs => obtain ⟨_, _, _, _, o, _, _, e, _⟩ := x; exact Heap.lt_size e
 | set S n => obtain ⟨o, _, _, _, e, _⟩ := x; exact Heap.lt_size e
 | ins C dx fs => obtain ⟨_, _, _, e, _⟩ := x; exact Heap.lt_size e
 | own y => obtain ⟨_, e⟩ := x; exact Heap.lt_size e
 | xd fs => obtain ⟨_, ⟨_, _, _, e, _⟩, _⟩ := x; exact Heap.lt_size e
 | rng lo hi => obtain ⟨_, _, _, e⟩ := x; exact Heap.lt_size e
 | frz ob u => obtain ⟨e, _⟩ := x; exact Heap.lt_size e
 | tbl ps => exact Heap.lt_size (show h.get? a = some _ from x)
 | met f y => exact Heap.lt_size (show h.get? a = some _ from x)
 | ext φ => obtain ⟨_, ⟨_, e⟩, _⟩ := x; exact Heap.lt_size e
theorem Paired.mapP {α β : Type} {F G : α → β → Prop} : ∀ {l₁ : List α} {l₂ : List β}, Paired F l₁ l₂ → (∀ a b, F a b → G a b) → Paired G l₁ l₂
 | _, _, .nil, _ => .nil
 | _, _, .cons r t, f => .cons (f _ _ r) (Paired.mapP t f)
theorem bg.stay (x : bg P w H h a o) (k : ∀ b u, (b = a ∨ H b = some (.own a)) → h.get? b = some u → h'.get? b = some u)
    (ho : ∀ b, H b = some (.own a) → H' b = some (.own a)) (ht : ∀ b xs, H b = some (.tup xs) → H' b = some (.tup xs)) : bg P w H' h' a o := by
  induction o with
  | lst xs => obtain ⟨z, its, n, r, e⟩ := x; exact ⟨z, its, n, r, k _ _ (.inl rfl) e⟩
  | tup xs => obtain ⟨z, its, r, ob, e, c⟩ := x; exact ⟨z, its, r, ob, k _ _ (.inl rfl) e, c⟩
  | dK kvs => obtain ⟨z, y, vs, r, ob, es, ep, e, c⟩ := x; exact ⟨z, y, vs, r, ob, es, ep, k _ _ (.inl rfl) e, c⟩
  | dT kvs =>
    obtain ⟨z, y, xs, r, ob, es, ep, e, c⟩ := x
    exact ⟨z, y, xs, Paired.mapP r fun p q z => ⟨z.1, ht _ _ z.2.1, z.2.2⟩, ob, es, ep, k _ _ (.inl rfl) e, c⟩
  | set S n => obtain ⟨ob, es, ep, t, e, c⟩ := x; exact ⟨ob, es, ep, t, k _ _ (.inl rfl) e, c⟩
  | ins C dx fs =>
    obtain ⟨d, z, ne, e, mA, ⟨od, es, ep, e2, c⟩, r⟩ := x
    exact ⟨ho _ d, z, ne, k _ _ (.inl rfl) e, mA, ⟨od, es, ep, k _ _ (.inr d) e2, c⟩, r⟩
  | own y => obtain ⟨ob, e⟩ := x; exact ⟨ob, k _ _ (.inl rfl) e⟩
  | xd fs => obtain ⟨mA, ⟨od, es, ep, e, c⟩, r⟩ := x; exact ⟨mA, ⟨od, es, ep, k _ _ (.inl rfl) e, c⟩, r⟩
  | rng lo hi => obtain ⟨t, u, v, e⟩ := x; exact ⟨t, u, v, k _ _ (.inl rfl) e⟩
  | frz ob u ih => obtain ⟨e, q⟩ := x; exact ⟨k _ _ (.inl rfl) e, ih q⟩
  | tbl ps =>
    have e : h.get? a = some { cls := .none, data := .fields ps } := x
    show h'.get? a = some { cls := .none, data := .fields ps }
    exact k a _ (.inl rfl) e
  | met f y =>
    have e : h.get? a = some (PySem.W.methodObj (.ref f) (.ref y)) := x
    show h'.get? a = some (PySem.W.methodObj (.ref f) (.ref y))
    exact k a _ (.inl rfl) e
  | ext φ => obtain ⟨p, ⟨o, e⟩, st⟩ := x; exact ⟨st _ _ p fun o q => k _ _ (.inl rfl) q, ⟨o, k _ _ (.inl rfl) e⟩, st⟩
theorem HOk.lt (x : HOk P w H h) (e : H a = some o) : a < h.objs.size := (x a o e).lt
theorem HOk.fresh (x : HOk P w H h) (e : h.objs.size ≤ a) : H a = none := by
 cases q : H a with
 | none => rfl
 | some u => exact absurd (Nat.lt_of_lt_of_le (x.lt q) e) (Nat.lt_irrefl _)
theorem HOk.kept (x : HOk P w H h) (k : ∀ b u, h.get? b = some u → h'.get? b = some u) : HOk P w H h' := fun a o e =>
 (x a o e).stay (fun b u _ q => k b u q) (fun _ q => q) fun _ _ q => q
theorem HOk.laid (x : HOk P w H h) (k : ∀ b u, h.get? b = some u → h'.get? b = some u) (hp : h.objs.size ≤ a) (new : bg P w (upd H a o) h' a o) : HOk P w (upd H a o) h' := fun b u e => by
 have hn := x.fresh hp
 by_cases hb : b = a
 · subst hb; rw [Cb] at e; cases e; exact new
 · rw [Ax hb] at e
   exact (x b u e).stay (fun c v _ q => k c v q) (fun c q => by rw [Ax (Gj q hn)]; exact q) fun c xs q => by rw [Ax (Gj q hn)]; exact q
end
def Rd (H : Hp) (a : Addr) (u : HO) : Prop := H a = some u ∨ ∃ o, H a = some (.frz o u)
theorem Rd.ok (r : Rd H a u) (x : HOk P w H h) : bg P w H h a u := by
 rcases r with r | ⟨o, r⟩
 · exact x a u r
 · obtain ⟨_, q⟩ := x a _ r
   exact q
def Mut : Option HO → Prop
 | some (.lst _) => True
 | some (.dK _) => True
 | some (.dT _) => True
 | some (.set _ _) => True
 | some (.ins _ _ _) => True
 | some (.ext _) => True
 | _ => False
section
variable {P : Program} {w : World} {H : Hp} {h h' : Heap} {x e : Addr} {o' : HO}
theorem HOk.write (ok : HOk P w H h) (mu : Mut (H x)) (he : e = x ∨ H e = some (.own x)) (k : ∀ b u, b ≠ e → h.get? b = some u → h'.get? b = some u) (heo : ∃ u, h'.get? e = some u)
    (new : bg P w (upd H x o') h' x o') : HOk P w (upd H x o') h' := fun b u q => by
  have nown : ∀ c y, H c = some (.own y) → c ≠ x := fun c y r z => by subst z; rw [r] at mu; exact mu
  have ntup : ∀ c xs, H c = some (.tup xs) → c ≠ x := fun c xs r z => by subst z; rw [r] at mu; exact mu
  by_cases hb : b = x
  · subst hb; rw [Cb] at q; cases q; exact new
  · rw [Ax hb] at q
    by_cases hbe : b = e
    · have q' : H b = some (.own x) := by
        rcases he with z | z
        · exact absurd (hbe.trans z) hb
        · rw [hbe]; exact z
      rw [q] at q'; cases q'
      obtain ⟨v, hv⟩ := heo
      exact ⟨v, by rw [hbe]; exact hv⟩
    · refine (ok b u q).stay (fun c v hc r => k c v ?_ r) (fun c r => by rw [Ax (nown c b r)]; exact r) fun c xs r => by rw [Ax (ntup c xs r)]; exact r
      rcases hc with rfl | hc
      · exact hbe
      · rintro rfl
        rcases he with z | z
        · exact nown c b hc z
        · rw [hc] at z; cases z; exact hb rfl
end
structure Un (fs ex : List Addr) (H H' : Hp) (h h' : Heap) : Prop where
 keep : ∀ b o, h.get? b = some o → H b = none → b ∉ fs → b ∉ ex → h'.get? b = some o
 slot : ∀ b o, h.get? b = some o → H b = none → b ∈ fs → b ∉ ex → ∃ sl, h'.get? b = some { o with slots := sl }
 free : ∀ b o, h.get? b = some o → H b = none → b ∉ ex → H' b = none
 there : ∀ b o, h.get? b = some o → b ∉ ex → ∃ o', h'.get? b = some o'
 tups : ∀ b xs, H b = some (.tup xs) → H' b = some (.tup xs)
 frzs : ∀ b o u, H b = some (.frz o u) → H' b = some (.frz o u)
 tbls : ∀ b ps, H b = some (.tbl ps) → ∃ more, H' b = some (.tbl (ps ++ more))
section
variable {fs fs' ex ex' : List Addr} {H H1 H2 : Hp} {h h1 h2 h' : Heap} {a x e : Addr} {o : HO}
theorem Un.any (u : Un fs ex H H1 h h1) (q : h.get? b = some ob) (n : H b = none) (hx : b ∉ ex) : ∃ sl, h1.get? b = some { ob with slots := sl } := by
 by_cases hb : b ∈ fs
 · exact u.slot b ob q n hb hx
 · exact ⟨ob.slots, u.keep b ob q n hb hx⟩
theorem Un.trans (a : Un fs ex H H1 h h1) (b : Un fs ex H1 H2 h1 h2) : Un fs ex H H2 h h2 where
 keep := fun c ob q n hc hx => b.keep c ob (a.keep c ob q n hc hx) (a.free c ob q n hx) hc hx
 slot := fun c ob q n hc hx => by
  obtain ⟨sl, e1⟩ := a.slot c ob q n hc hx
  obtain ⟨sl', e2⟩ := b.slot c _ e1 (a.free c ob q n hx) hc hx
  exact ⟨sl', e2⟩
 free := fun c ob q n hx => by
  obtain ⟨o', e1⟩ := a.there c ob q hx
  exact b.free c o' e1 (a.free c ob q n hx) hx
 there := fun c ob q hx => by
  obtain ⟨o', e1⟩ := a.there c ob q hx
  exact b.there c o' e1 hx
 tups := fun c xs q => b.tups c xs (a.tups c xs q)
 frzs := fun c ob xs q => b.frzs c ob xs (a.frzs c ob xs q)
 tbls := fun c ps q => by
  obtain ⟨m1, e1⟩ := a.tbls c ps q
  obtain ⟨m2, e2⟩ := b.tbls c _ e1
  exact ⟨m1 ++ m2, by rw [e2, Array.append_assoc]⟩
theorem Un.kept (k : ∀ b u, h.get? b = some u → h'.get? b = some u) : Un fs ex H H h h' :=
 ⟨fun b ob q _ _ _ => k b ob q, fun b ob q _ _ _ => ⟨ob.slots, k b ob q⟩, fun _ _ _ n _ => n, fun b ob q _ => ⟨ob, k b ob q⟩, fun _ _ q => q, fun _ _ _ q => q, fun _ ps q => ⟨#[], by rw [q]; simp⟩⟩
theorem Un.refl : Un fs ex H H h h := Un.kept fun _ _ q => q
theorem Un.laid (k : ∀ b u, h.get? b = some u → h'.get? b = some u) (hp : h.objs.size ≤ a) (hn : H a = none) : Un fs ex H (upd H a o) h h' where
 keep := fun b u q _ _ _ => k b u q
 slot := fun b u q _ _ _ => ⟨u.slots, k b u q⟩
 free := fun b u q n _ => by rw [Ax (Nat.ne_of_lt (Nat.lt_of_lt_of_le (Heap.lt_size q) hp))]; exact n
 there := fun b u q _ => ⟨u, k b u q⟩
 tups := fun b xs q => by rw [Ax (Gj q hn)]; exact q
 frzs := fun b u xs q => by rw [Ax (Gj q hn)]; exact q
 tbls := fun b ps q => ⟨#[], by rw [Ax (Gj q hn), q]; simp⟩
theorem Un.write (mu : Mut (H x)) (he : e = x ∨ H e = some (.own x)) (k : ∀ b u, b ≠ e → h.get? b = some u → h'.get? b = some u) (heo : ∃ u, h'.get? e = some u) : Un fs ex H (upd H x o) h h' := by
 have hx : ∀ b, H b = none → b ≠ x := fun b n z => by subst z; rw [n] at mu; exact mu
 have hb : ∀ b, H b = none → b ≠ e := fun b n z => by
  subst z
  rcases he with r | r
  · exact hx b n r
  · rw [n] at r; cases r
 have hm : ∀ b u, H b = some u → ¬ Mut (some u) → b ≠ x := fun b u q nm z => by subst z; rw [q] at mu; exact nm mu
 refine ⟨fun b u q n _ _ => k b u (hb b n) q, fun b u q n _ _ => ⟨u.slots, k b u (hb b n) q⟩, fun b u q n _ => by rw [Ax (hx b n)]; exact n, fun b u q _ => ?_,
  fun b xs q => by rw [Ax (hm b _ q fun z => z)]; exact q, fun b u xs q => by rw [Ax (hm b _ q fun z => z)]; exact q, fun b ps q => ⟨#[], by rw [Ax (hm b _ q fun z => z), q]; simp⟩⟩
 by_cases hbe : b = e
 · subst hbe; exact heo
 · exact ⟨u, k b u hbe q⟩
end
def trk (h : Heap) (H : Hp) : List Addr := (List.range h.objs.size).filter fun a => (H a).isSome
def Ep (h : Heap) (H : Hp) : Heap := PySem.W.hideAll h (trk h H)
theorem uh (h : Heap) (H : Hp) : (Ep h H).objs.size = h.objs.size := PySem.W.hideAll_size _ _
theorem Uh (e : h.get? b = some o) (n : H b = none) : (Ep h H).get? b = some o :=
 PySem.W.hideAll_get _ e fun hm => by
  have q : (H b).isSome = true := (List.mem_filter.mp hm).2
  rw [n] at q; simp at q
theorem ui (e : (Ep h H).get? b = some o) : h.get? b = some o ∧ H b = none := by
 have e' : h.get? b = some o := PySem.W.of_hideAll (trk h H) e
 refine ⟨e', ?_⟩
 cases q : H b with
 | none => rfl
 | some x =>
  have hm : b ∈ trk h H := List.mem_filter.mpr ⟨List.mem_range.mpr (Heap.lt_size e'), by simp [q]⟩
  have z : (Ep h H).get? b = none := PySem.W.hideAll_none (trk h H) hm
  rw [z] at e; cases e
def Ui (g h : Heap) (L : Addr) : List (Addr × Obj) := (List.range h.objs.size).filterMap fun a => if a = L ∨ (g.get? a).isSome = true then none else (h.get? a).map fun o => (a, o)
def rest (g h : Heap) (L d : Addr) : List (Addr × Obj) := (Ui g h L).filter fun p => decide (p.1 ≠ d)
end L2
namespace L2
open PySem PySem.Spec PyProof.Rows
structure Mod (K : PySem.W.Frag) (mg : Str → Option Value) (base : Heap) : Prop where
 kin : K.In base
 glob : base.Ns mainGlobals mg
 blt : ∃ mb, base.Ns builtinsNs mb ∧ ∀ x : Str, x ≠ "__name__" → mb x = bootBuiltins x
 nolimit : base.NoLimit
structure Cx where
 prog : Program
 w : World
 K : PySem.W.Frag
 mg : Str → Option Value
 base : Heap
 A : Around
 N : List Str
 s₀ : Shared
 H₀ : Hp
 env : Env
 outer : List Env
 stack : List Env
 ex : List Addr
 fn : Str → Bool
 calm : Bool
 pn : List (Addr × Obj)
 xe : Value → Shared → Prop
def frs (l : List Env) : List Addr := l.filterMap (·.frame)
abbrev Cx.fs (X : Cx) : List Addr := frs X.outer
def Vis (sc : Scope) (x : Str) : Prop := sc.names.lookup x = some .local ∨ sc.names.lookup x = some .cell ∨ sc.names.lookup x = some .free
def Loc (sc : Scope) (x : Str) : Prop := sc.names.lookup x = some .local ∨ sc.names.lookup x = some .cell
def Look (env : Env) (h : Heap) (m : Str → Option Value) (x : Str) (u : Value) : Prop :=
 (env.kindOf x = some .local ∧ m x = some u) ∨ ((env.kindOf x = some .cell ∨ env.kindOf x = some .free) ∧ ∃ c, env.cells.lookup x = some c ∧ h.IsCell c (some u))
structure Cx.Ok (X : Cx) : Prop where
 mod : Mod X.K X.mg X.base
 kind : X.env.scope.kind = .function
 glob : X.env.globals = mainGlobals
 blt : X.env.builtins = builtinsNs
 above : X.s₀.heap.objs.size ≤ X.env.locals
 inj : ∀ x y c, X.env.cells.lookup x = some c → X.env.cells.lookup y = some c → x = y
 has : ∀ x, (X.env.kindOf x = some .cell ∨ X.env.kindOf x = some .free) → ∃ c, X.env.cells.lookup x = some c
 cab : ∀ x c, X.fn x = true → X.env.cells.lookup x = some c → X.s₀.heap.objs.size ≤ c
 hd : X.calm = true → X.A.handled = none
 frames : X.A.frames = some X.stack
 stk : X.stack = X.outer ∨ (X.stack = X.env :: X.outer ∧ X.env.frame = some X.env.locals)
 exf : ∀ b ∈ X.ex, b ≠ X.env.locals ∧ ∀ x c, X.env.cells.lookup x = some c → c ≠ b
 bs : ∀ b o, X.base.get? b = some o → X.s₀.heap.get? b = some o ∧ X.H₀ b = none
 bsz : X.base.objs.size ≤ X.s₀.heap.objs.size
 noex : ∀ b o, X.base.get? b = some o → b ∉ X.ex
 exfs : ∀ b ∈ X.ex, b ∉ X.fs
 funs : X.s₀.heap.FunFrames X.base X.outer
 frf : ∀ b ∈ X.fs, X.H₀ b = none
structure Inv (X : Cx) (pins : List (Addr × Obj)) (σ : List (Option V)) (H : Hp) (s : Shared) : Prop where
 ok : X.Ok
 os : s.os = X.s₀.os
 bare : AllBare s.gens
 base : Un X.fs X.ex X.H₀ H X.s₀.heap s.heap
 loc : ∃ m, s.heap.Ns X.env.locals m ∧ ∀ (i : Nat) (x : Str) (v : V), X.N[i]? = some x → σ[i]? = some (some v) → Vis X.env.scope x → ∃ u, RelV v u ∧ Look X.env s.heap m x u
 cell : ∀ x c, X.env.cells.lookup x = some c → ∃ v, s.heap.IsCell c v
 free : H X.env.locals = none
 freeC : ∀ x c, X.env.cells.lookup x = some c → H c = none
 pin : ∀ p ∈ X.pn ++ pins, s.heap.get? p.1 = some p.2 ∧ H p.1 = none ∧ p.1 ≠ X.env.locals ∧ p.1 ∉ X.fs ∧ ∀ v, p.2.data ≠ .cell v
 hok : HOk X.prog X.w H s.heap
 len : σ.length = X.N.length
section
variable {X : Cx} {pins : List (Addr × Obj)} {σ : List (Option V)} {H H' : Hp} {s : Shared} {h' : Heap}
theorem Cx.Ok.nofr (ok : X.Ok) (e : X.base.get? b = some o) : b ∉ X.fs := fun hb => by
 have := (ok.funs.mem hb).1
 rw [e] at this; cases this
theorem Inv.bs (I : Inv X pins σ H s) : ∀ b o, X.base.get? b = some o → s.heap.get? b = some o ∧ H b = none := fun b o e =>
 ⟨I.base.keep b o (I.ok.bs b o e).1 (I.ok.bs b o e).2 (I.ok.nofr e) (I.ok.noex b o e), I.base.free b o (I.ok.bs b o e).1 (I.ok.bs b o e).2 (I.ok.noex b o e)⟩
theorem Inv.bk (I : Inv X pins σ H s) : ∀ b o, X.base.get? b = some o → s.heap.get? b = some o := fun b o e => (I.bs b o e).1
theorem Inv.mod (I : Inv X pins σ H s) : Mod X.K X.mg X.base := I.ok.mod
theorem Inv.kIn (I : Inv X pins σ H s) : X.K.In s.heap := I.ok.mod.kin.keeps I.bk
theorem Inv.lt (I : Inv X pins σ H s) : X.env.locals < s.heap.objs.size := let ⟨_, hn, _⟩ := I.loc; hn.lt
theorem Inv.sz (I : Inv X pins σ H s) : X.s₀.heap.objs.size ≤ s.heap.objs.size := Nat.le_trans I.ok.above (Nat.le_of_lt I.lt)
theorem Inv.nofs (I : Inv X pins σ H s) (h : s.heap.objs.size ≤ a) : a ∉ X.fs := fun hb => by
 obtain ⟨_, o, ho, _⟩ := I.ok.funs.mem hb
 exact absurd (Nat.lt_of_lt_of_le (Heap.lt_size ho) (Nat.le_trans I.sz h)) (Nat.lt_irrefl _)
theorem Inv.cne (I : Inv X pins σ H s) : ∀ x c, X.env.cells.lookup x = some c → c ≠ X.env.locals := fun x c e z => by
 obtain ⟨v, o, ho, hd⟩ := I.cell x c e
 obtain ⟨m, ⟨o', es, ep, ho', hd', _⟩, _⟩ := I.loc
 rw [z, ho'] at ho; cases ho; rw [hd'] at hd; cases hd
theorem Inv.funs (I : Inv X pins σ H s) : s.heap.FunFrames X.base X.outer := by
 have all : ∀ (l : List Env), (∀ b ∈ frs l, b ∈ X.fs) → X.s₀.heap.FunFrames X.base l → s.heap.FunFrames X.base l := by
  intro l
  induction l with
  | nil => intro _ _; trivial
  | cons env r ih =>
   intro hs hl
   obtain ⟨hk, ⟨L, o, hf, hn, ho, hd⟩, hr⟩ := hl
   have hL : L ∈ X.fs := hs L (by unfold frs; rw [List.filterMap_cons, hf]; exact List.mem_cons_self)
   obtain ⟨sl, e⟩ := I.base.slot L o ho (I.ok.frf L hL) hL fun z => I.ok.exfs L z hL
   exact ⟨hk, ⟨L, _, hf, hn, e, hd⟩, ih (fun b hb => hs b (by unfold frs; rw [List.filterMap_cons, hf]; exact List.mem_cons_of_mem _ hb)) hr⟩
 exact all X.outer (fun _ hb => hb) I.ok.funs
theorem Inv.stack (I : Inv X pins σ H s) : s.heap.FunFrames X.base X.stack := by
 rcases I.ok.stk with e | ⟨e, hf⟩
 · rw [e]; exact I.funs
 · rw [e]
   obtain ⟨m, hn, _⟩ := I.loc
   refine .cons (by rw [I.ok.kind]; decide) hf hn ?_ I.funs
   exact Heap.get?_none_of_le (Nat.le_trans I.ok.bsz I.ok.above)
theorem Inv.stkSub (I : Inv X pins σ H s) : ∀ b ∈ frs X.stack, b ∈ X.env.locals :: X.fs := fun b hb => by
 rcases I.ok.stk with e | ⟨e, hf⟩
 · rw [e] at hb; exact List.mem_cons_of_mem _ hb
 · rw [e] at hb
   unfold frs at hb
   rw [List.filterMap_cons, hf] at hb
   exact hb
theorem Inv.stkFree (I : Inv X pins σ H s) : ∀ b ∈ frs X.stack, H b = none := fun b hb => by
 rcases List.mem_cons.mp (I.stkSub b hb) with e | hb
 · rw [e]; exact I.free
 · obtain ⟨_, o, ho, _⟩ := I.ok.funs.mem hb
   exact I.base.free b o ho (I.ok.frf b hb) fun z => I.ok.exfs b z hb
theorem Inv.step {g' : Array GenState} {t' : Nat} {d' : Drawn} {ch : List Addr} (I : Inv X pins σ H s)
    (hch : ∀ b ∈ ch, (b ∈ X.ex ∨ X.s₀.heap.objs.size ≤ b) ∧ b ≠ X.env.locals ∧ (∀ x c, X.env.cells.lookup x = some c → c ≠ b) ∧ ∀ p ∈ X.pn ++ pins, p.1 ≠ b)
    (keep : ∀ b o, b ≠ X.env.locals → b ∉ X.fs → b ∉ ch → s.heap.get? b = some o → H b = none → h'.get? b = some o)
    (slot : ∀ b o, b ≠ X.env.locals → b ∈ X.fs → b ∉ ch → s.heap.get? b = some o → H b = none → ∃ sl, h'.get? b = some { o with slots := sl }) (free : ∀ b o, b ∉ ch → s.heap.get? b = some o → H b = none → H' b = none)
    (there : ∀ b o, b ∉ ch → s.heap.get? b = some o → ∃ o', h'.get? b = some o')
    (tups : ∀ b xs, H b = some (.tup xs) → H' b = some (.tup xs)) (frzs : ∀ b o u, H b = some (.frz o u) → H' b = some (.frz o u)) (tbls : ∀ b ps, H b = some (.tbl ps) → ∃ more, H' b = some (.tbl (ps ++ more)))
    (ns : ∀ m, s.heap.Ns X.env.locals m → h'.Ns X.env.locals m) (hok : HOk X.prog X.w H' h') (hg : AllBare g') :
    Inv X pins σ H' { s with heap := h', gens := g', drawn := d', toks := t' } := by
  have neL : ∀ b o, X.s₀.heap.get? b = some o → b ≠ X.env.locals := fun b o e => Nat.ne_of_lt (Nat.lt_of_lt_of_le (Heap.lt_size e) I.ok.above)
  have neC : ∀ b o, X.s₀.heap.get? b = some o → b ∉ X.ex → b ∉ ch := fun b o e hx hb => by
    rcases (hch b hb).1 with z | z
    · exact hx z
    · exact absurd (Nat.lt_of_lt_of_le (Heap.lt_size e) z) (Nat.lt_irrefl _)
  have cellK : ∀ x c, X.env.cells.lookup x = some c → ∀ v, s.heap.IsCell c v → h'.IsCell c v := fun x c e v ⟨o, ho, hd⟩ => by
    have nch : c ∉ ch := fun z => (hch c z).2.2.1 x c e rfl
    by_cases hc : c ∈ X.fs
    · obtain ⟨sl, q⟩ := slot c o (I.cne x c e) hc nch ho (I.freeC x c e)
      exact ⟨_, q, hd⟩
    · exact ⟨o, keep c o (I.cne x c e) hc nch ho (I.freeC x c e), hd⟩
  refine ⟨I.ok, I.os, hg, ⟨fun b o e n hb hx => ?_, fun b o e n hb hx => ?_, fun b o e n hx => ?_, fun b o e hx => ?_, fun b xs e => tups b xs (I.base.tups b xs e), fun b o xs e => frzs b o xs (I.base.frzs b o xs e), fun b ps e => ?_⟩, ?_, fun x c e => ?_, ?_, fun x c e => ?_, fun p hp => ?_, hok, I.len⟩
  · exact keep b o (neL b o e) hb (neC b o e hx) (I.base.keep b o e n hb hx) (I.base.free b o e n hx)
  · obtain ⟨sl, e1⟩ := I.base.slot b o e n hb hx
    obtain ⟨sl', e2⟩ := slot b _ (neL b o e) hb (neC b o e hx) e1 (I.base.free b o e n hx)
    exact ⟨sl', e2⟩
  · obtain ⟨o', e1⟩ := I.base.there b o e hx
    exact free b o' (neC b o e hx) e1 (I.base.free b o e n hx)
  · obtain ⟨o', e1⟩ := I.base.there b o e hx
    exact there b o' (neC b o e hx) e1
  · obtain ⟨m1, e1⟩ := I.base.tbls b ps e
    obtain ⟨m2, e2⟩ := tbls b _ e1
    exact ⟨m1 ++ m2, by rw [e2, Array.append_assoc]⟩
  · obtain ⟨m, hn, hl⟩ := I.loc
    refine ⟨m, ns m hn, fun i x v e1 e2 e3 => ?_⟩
    obtain ⟨u, r, l⟩ := hl i x v e1 e2 e3
    refine ⟨u, r, ?_⟩
    rcases l with l | ⟨k, c, e, z⟩
    · exact .inl l
    · exact .inr ⟨k, c, e, cellK x c e _ z⟩
  · obtain ⟨v, z⟩ := I.cell x c e
    exact ⟨v, cellK x c e v z⟩
  · obtain ⟨m, ⟨o, _, _, ho, _⟩, _⟩ := I.loc
    exact free _ o (fun z => (hch _ z).2.1 rfl) ho I.free
  · obtain ⟨v, o, ho, hd⟩ := I.cell x c e
    exact free c o (fun z => (hch c z).2.2.1 x c e rfl) ho (I.freeC x c e)
  · obtain ⟨e, n, ne, nf, d⟩ := I.pin p hp
    have nch : p.1 ∉ ch := fun z => (hch p.1 z).2.2.2 p hp rfl
    exact ⟨keep p.1 p.2 ne nf nch e n, free p.1 p.2 nch e n, ne, nf, d⟩
theorem Inv.un {t' : Nat} (I : Inv X pins σ H s) (u : Un X.fs [] H H' s.heap h') (hok : HOk X.prog X.w H' h') : Inv X pins σ H' { s with heap := h', toks := t' } := by
 obtain ⟨m, ⟨o, es, ep, ho, r⟩, _⟩ := id I.loc
 obtain ⟨sl, hL⟩ := u.any ho I.free (by simp)
 exact I.step (g' := s.gens) (d' := s.drawn) (ch := []) (fun _ z => nomatch z) (fun b o _ hb _ e n => u.keep b o e n hb (by simp)) (fun b o _ hb _ e n => u.slot b o e n hb (by simp)) (fun b o _ e n => u.free b o e n (by simp)) (fun b o _ e => u.there b o e (by simp)) u.tups u.frzs u.tbls (fun m' hm => by
  obtain ⟨o', es', ep', ho', r'⟩ := hm
  rw [ho] at ho'; cases ho'
  exact ⟨_, es', ep', hL, r'⟩) hok I.bare
theorem Inv.call {g' : Array GenState} {t' : Nat} {d' : Drawn} {ch : List Addr} (I : Inv X pins σ H s) (u : Un (frs X.stack) ch H H' s.heap h') (hok : HOk X.prog X.w H' h') (hg : AllBare g')
    (hch : ∀ b ∈ ch, (b ∈ X.ex ∨ X.s₀.heap.objs.size ≤ b) ∧ b ≠ X.env.locals ∧ (∀ x c, X.env.cells.lookup x = some c → c ≠ b) ∧ ∀ p ∈ X.pn ++ pins, p.1 ≠ b) :
    Inv X pins σ H' { s with heap := h', gens := g', drawn := d', toks := t' } := by
  obtain ⟨m, ⟨o, es, ep, ho, r⟩, _⟩ := id I.loc
  obtain ⟨sl, hL⟩ := u.any ho I.free fun z => (hch _ z).2.1 rfl
  exact I.step (ch := ch) hch (fun b o hL hb hc e n => u.keep b o e n (fun z => (List.mem_cons.mp (I.stkSub b z)).elim hL hb) hc) (fun b o _ _ hc e n => u.any e n hc) (fun b o hc e n => u.free b o e n hc) (fun b o hc e => u.there b o e hc) u.tups u.frzs u.tbls (fun m' hm => by
    obtain ⟨o', es', ep', ho', r'⟩ := hm
    rw [ho] at ho'; cases ho'
    exact ⟨_, es', ep', hL, r'⟩) hok hg
theorem Inv.turned {t' : Nat} {it : Addr} (I : Inv X pins σ H s) (k : ∀ b o, b ≠ it → s.heap.get? b = some o → h'.get? b = some o) (hn : H it = none) (hL : it ≠ X.env.locals)
    (h1 : it ∈ X.ex ∨ X.s₀.heap.objs.size ≤ it) (h2 : ∀ x c, X.env.cells.lookup x = some c → c ≠ it) (h3 : ∀ p ∈ X.pn ++ pins, p.1 ≠ it) : Inv X pins σ H { s with heap := h', toks := t' } := by
  have nit : ∀ b u, H b = some u → b ≠ it := fun b u e z => by rw [z, hn] at e; cases e
  refine I.step (g' := s.gens) (d' := s.drawn) (ch := [it]) (fun b hb => ?_) (fun b o _ _ hc e _ => k b o (fun z => hc (by simp [z])) e) (fun b o _ _ hc e _ => ⟨o.slots, k b o (fun z => hc (by simp [z])) e⟩) (fun _ _ _ _ n => n)
    (fun b o hc e => ⟨o, k b o (fun z => hc (by simp [z])) e⟩) (fun _ _ e => e) (fun _ _ _ e => e) (fun b ps e => ⟨#[], by rw [e]; simp⟩) (fun m hm => ?_) (fun b u e => ?_) I.bare
  · have e : b = it := by simpa using hb
    subst e
    exact ⟨h1, hL, h2, h3⟩
  · obtain ⟨o, es, ep, ho, r⟩ := hm
    exact ⟨o, es, ep, k _ o (Ne.symm hL) ho, r⟩
  · refine (I.hok b u e).stay (fun c v hc q => k c v ?_ q) (fun _ q => q) fun _ _ q => q
    rcases hc with z | z
    · rw [z]; exact nit b u e
    · exact nit c _ z
theorem Inv.tok (I : Inv X pins σ H s) (t : Nat) : Inv X pins σ H { s with toks := t } := I.un (h' := s.heap) (t' := t) Un.refl I.hok
theorem Inv.kept {t' : Nat} (I : Inv X pins σ H s) (k : ∀ b u, s.heap.get? b = some u → h'.get? b = some u) : Inv X pins σ H { s with heap := h', toks := t' } := I.un (Un.kept k) (I.hok.kept k)
theorem Inv.laid (I : Inv X pins σ H s) (k : ∀ b u, s.heap.get? b = some u → h'.get? b = some u) (hp : s.heap.objs.size ≤ a) (new : bg X.prog X.w (upd H a o) h' a o) :
    Inv X pins σ (upd H a o) { s with heap := h', toks := t' } := I.un (Un.laid k hp (I.hok.fresh hp)) (I.hok.laid k hp new)
theorem Inv.write (I : Inv X pins σ H s) (mu : Mut (H x)) (he : e = x ∨ H e = some (.own x)) (k : ∀ b u, b ≠ e → s.heap.get? b = some u → h'.get? b = some u) (heo : ∃ u, h'.get? e = some u)
    (new : bg X.prog X.w (upd H x o) h' x o) : Inv X pins σ (upd H x o) { s with heap := h', toks := t' } := I.un (Un.write mu he k heo) (I.hok.write mu he k heo new)
theorem Inv.pins_of (I : Inv X pins σ H s) (h : ∀ p ∈ pins', s.heap.get? p.1 = some p.2 ∧ H p.1 = none ∧ p.1 ≠ X.env.locals ∧ p.1 ∉ X.fs ∧ ∀ v, p.2.data ≠ .cell v) : Inv X pins' σ H s :=
 ⟨I.ok, I.os, I.bare, I.base, I.loc, I.cell, I.free, I.freeC, fun p hp => (List.mem_append.mp hp).elim (fun z => I.pin p (List.mem_append_left _ z)) (h p), I.hok, I.len⟩
theorem oo {N : List Str} (hN : N.Nodup) {i j : Nat} {x : Str} (a : N[i]? = some x) (b : N[j]? = some x) : i = j := by
 obtain ⟨h1, e1⟩ := List.getElem?_eq_some_iff.mp a
 obtain ⟨h2, e2⟩ := List.getElem?_eq_some_iff.mp b
 exact (List.getElem_inj hN).mp (e1.trans e2.symm)
theorem Oo {M : Model} {A : Around} {E : Value → Shared → Prop} {i : Nat} {x : Str} {v : V} {u : Value} {Q : Unit → Shared → Prop} (I : Inv X pins σ H s) (hN : X.N.Nodup) (hi : X.N[i]? = some x) (hx : Loc X.env.scope x) (r : RelV v u)
    (h : ∀ s', Inv X pins (σ.set i (some v)) H s' → (∃ a, Heap.SameBut a s.heap s'.heap ∧ (a = X.env.locals ∨ X.env.cells.lookup x = some a)) → Q () s') (hf : X.fn x = true ∨ X.env.scope.names.lookup x = some .local := by first | exact .inl rfl | exact .inr rfl | assumption) : wpAny M A (storeName X.env x u) Q E s := by
  obtain ⟨m, hn, hl⟩ := id I.loc
  have hcls : (X.env.scope.kind == .class || (X.env.scope.kind == .module && X.env.locals != X.env.globals)) = false := by rw [I.ok.kind]; rfl
  have hiσ : i < σ.length := by rw [I.len]; exact (List.getElem?_eq_some_iff.mp hi).1
  have cne := I.cne
  have tracked : ∀ {a : Addr} {h' : Heap}, (∃ o, s.heap.get? a = some o ∧ H a = none) → Heap.SameBut a s.heap h' → HOk X.prog X.w H h' := fun {a h'} ha hs b ob e => by
    obtain ⟨_, _, hfree⟩ := ha
    refine (I.hok b ob e).stay (fun c w' hc q => (hs.2 c ?_).trans q) (fun _ q => q) fun _ _ q => q
    rintro rfl
    rcases hc with rfl | hc
    · rw [hfree] at e; cases e
    · rw [hfree] at hc; cases hc
  rcases hx with hk | hk
  · refine wpAny_storeName_local hk hn (fun h' hn' hs => ?_) hcls
    obtain ⟨oL, _, _, hoL, _⟩ := id hn
    refine h _ ⟨I.ok, I.os, I.bare, ⟨fun b o e n hb hx => ?_, fun b o e n hb hx => ?_, I.base.free, fun b o e hx => ?_, I.base.tups, I.base.frzs, I.base.tbls⟩, ⟨_, hn', fun j y v' e1 e2 e3 => ?_⟩, fun y c e => ?_, I.free, I.freeC, fun p hp => ?_, tracked ⟨oL, hoL, I.free⟩ hs, by simpa using I.len⟩ ⟨_, hs, .inl rfl⟩
    · exact (hs.2 b (Nat.ne_of_lt (Nat.lt_of_lt_of_le (Heap.lt_size e) I.ok.above))).trans (I.base.keep b o e n hb hx)
    · obtain ⟨sl, e1⟩ := I.base.slot b o e n hb hx
      exact ⟨sl, (hs.2 b (Nat.ne_of_lt (Nat.lt_of_lt_of_le (Heap.lt_size e) I.ok.above))).trans e1⟩
    · obtain ⟨o', e1⟩ := I.base.there b o e hx
      exact ⟨o', (hs.2 b (Nat.ne_of_lt (Nat.lt_of_lt_of_le (Heap.lt_size e) I.ok.above))).trans e1⟩
    · by_cases hj : j = i
      · subst hj
        rw [hi] at e1; cases e1
        rw [List.getElem?_set_self hiσ] at e2
        cases e2
        exact ⟨u, r, .inl ⟨hk, by simp⟩⟩
      · rw [List.getElem?_set_ne (Ne.symm hj)] at e2
        obtain ⟨u', r', q⟩ := hl j y v' e1 e2 e3
        refine ⟨u', r', ?_⟩
        rcases q with ⟨k, e⟩ | ⟨k, c, e, z⟩
        · refine .inl ⟨k, ?_⟩
          have : y ≠ x := fun e => hj (oo hN e1 (e ▸ hi))
          simp [this, e]
        · exact .inr ⟨k, c, e, z.sameBut hs (cne y c e)⟩
    · obtain ⟨w', z⟩ := I.cell y c e
      exact ⟨w', z.sameBut hs (cne y c e)⟩
    · obtain ⟨e, n, ne, nf, d⟩ := I.pin p hp
      exact ⟨(hs.2 p.1 ne).trans e, n, ne, nf, d⟩
  · have hfn : X.fn x = true := by
      rcases hf with z | z
      · exact z
      · rw [z] at hk; cases hk
    obtain ⟨c, hc⟩ := I.ok.has x (.inl hk)
    obtain ⟨w', z⟩ := I.cell x c hc
    refine wpAny_storeName_cell I.ok.kind hk hc z (fun h' hc' hs => ?_)
    obtain ⟨oc, hoc, hocd⟩ := id z
    refine h { s with heap := h' } ⟨I.ok, I.os, I.bare, ⟨fun b o e n hb hx => ?_, fun b o e n hb hx => ?_, I.base.free, fun b o e hx => ?_, I.base.tups, I.base.frzs, I.base.tbls⟩, ⟨m, hn.sameBut hs (Ne.symm (cne x c hc)), fun j y v' e1 e2 e3 => ?_⟩, fun y c' e => ?_, I.free, I.freeC, fun p hp => ?_, tracked ⟨oc, hoc, I.freeC x c hc⟩ hs, by simpa using I.len⟩ ⟨c, hs, .inr hc⟩
    · exact (hs.2 b (Nat.ne_of_lt (Nat.lt_of_lt_of_le (Heap.lt_size e) (I.ok.cab x c hfn hc)))).trans (I.base.keep b o e n hb hx)
    · obtain ⟨sl, e1⟩ := I.base.slot b o e n hb hx
      exact ⟨sl, (hs.2 b (Nat.ne_of_lt (Nat.lt_of_lt_of_le (Heap.lt_size e) (I.ok.cab x c hfn hc)))).trans e1⟩
    · obtain ⟨o', e1⟩ := I.base.there b o e hx
      exact ⟨o', (hs.2 b (Nat.ne_of_lt (Nat.lt_of_lt_of_le (Heap.lt_size e) (I.ok.cab x c hfn hc)))).trans e1⟩
    · by_cases hj : j = i
      · subst hj
        rw [hi] at e1; cases e1
        rw [List.getElem?_set_self hiσ] at e2
        cases e2
        exact ⟨u, r, .inr ⟨.inl hk, c, hc, hc'⟩⟩
      · rw [List.getElem?_set_ne (Ne.symm hj)] at e2
        obtain ⟨u', r', q⟩ := hl j y v' e1 e2 e3
        refine ⟨u', r', ?_⟩
        rcases q with q | ⟨k, c', e, z'⟩
        · exact .inl q
        · refine .inr ⟨k, c', e, z'.sameBut hs ?_⟩
          rintro rfl
          exact hj (oo hN e1 (I.ok.inj _ _ _ e hc ▸ hi))
    · by_cases hcc : c' = c
      · subst hcc; exact ⟨_, hc'⟩
      · obtain ⟨w2, z2⟩ := I.cell y c' e
        exact ⟨w2, z2.sameBut hs hcc⟩
    · obtain ⟨e, n, ne, nf, d⟩ := I.pin p hp
      refine ⟨(hs.2 p.1 ?_).trans e, n, ne, nf, d⟩
      intro q
      rw [q, hoc] at e
      have q' : oc = p.2 := Option.some.inj e
      exact d w' (by rw [← q']; exact hocd)
theorem Jf {M : Model} {A : Around} {E : Value → Shared → Prop} {i : Nat} {x : Str} {v : V} {u : Value} {Q : Unit → Shared → Prop} (I : Inv X pins σ H s) (hN : X.N.Nodup) (hi : X.N[i]? = some x) (hx : Loc X.env.scope x) (r : RelV v u)
    (h : ∀ s', Inv X pins (σ.set i (some v)) H s' → Q () s') (hf : X.fn x = true ∨ X.env.scope.names.lookup x = some .local := by first | exact .inl rfl | exact .inr rfl | assumption) : wpAny M A (storeName X.env x u) Q E s :=
  Oo I hN hi hx r (fun s' I' _ => h s' I') hf
theorem Inv.call' (I : Inv X pins σ H s) (ho : s'.os = s.os) (u : Un (frs X.stack) ch H H' s.heap s'.heap) (hok : HOk X.prog X.w H' s'.heap) (hg : AllBare s'.gens)
    (hch : ∀ b ∈ ch, (b ∈ X.ex ∨ X.s₀.heap.objs.size ≤ b) ∧ b ≠ X.env.locals ∧ (∀ x c, X.env.cells.lookup x = some c → c ≠ b) ∧ ∀ p ∈ X.pn ++ pins, p.1 ≠ b) : Inv X pins σ H' s' := by
  obtain ⟨h', g', d', t', o'⟩ := s'
  have e : o' = s.os := ho
  subst e
  exact I.call (g' := g') (t' := t') (d' := d') u hok hg hch
end
abbrev XK := Value → Option Addr → Hp → Prop
abbrev St := List (Option V)
abbrev VK := V → Hp → Prop
abbrev TE := St → Hp → VK → Prop
abbrev TT := St → Hp → (Bool → Hp → Prop) → Prop
abbrev TA := St → Hp → (List V → Hp → Prop) → Prop
structure Ends where
 nx : St → Hp → Prop
 rt : VK
 bk : St → Hp → Prop := fun _ _ => False
 ct : St → Hp → Prop := fun _ _ => False
abbrev TS := Ends → St → Hp → Prop
def EP (X : Cx) (pins : List (Addr × Obj)) (σ : St) (Q : VK) (u : Value) (s' : Shared) : Prop := ∃ v H', Inv X pins σ H' s' ∧ RelV v u ∧ Q v H'
def TP (X : Cx) (pins : List (Addr × Obj)) (σ : St) (Q : Bool → Hp → Prop) (b : Bool) (s' : Shared) : Prop := ∃ H', Inv X pins σ H' s' ∧ Q b H'
def AP (X : Cx) (pins : List (Addr × Obj)) (σ : St) (Q : List V → Hp → Prop) (us : List Value) (s' : Shared) : Prop := ∃ vs H', Inv X pins σ H' s' ∧ Vals vs us ∧ Q vs H'
def SP (X : Cx) (pins : List (Addr × Obj)) (D : Ends) (f : Flow) (s' : Shared) : Prop :=
 match f with
 | .next => ∃ σ' H', Inv X pins σ' H' s' ∧ D.nx σ' H'
 | .brk => ∃ σ' H', Inv X pins σ' H' s' ∧ D.bk σ' H'
 | .cont => ∃ σ' H', Inv X pins σ' H' s' ∧ D.ct σ' H'
 | .ret u => ∃ v σ' H', Inv X pins σ' H' s' ∧ RelV v u ∧ D.rt v H'
def PE (X : Cx) (e : Expr) (t : TE) : Prop :=
 ∀ (pins : List (Addr × Obj)) (s : Shared) (σ : St) (H : Hp) (Q : VK), Inv X pins σ H s → t σ H Q → wpAny (model X.prog X.w) X.A (eval e X.env) (EP X pins σ Q) X.xe s
def PT (X : Cx) (e : Expr) (t : TT) : Prop :=
 ∀ (pins : List (Addr × Obj)) (s : Shared) (σ : St) (H : Hp) (Q : Bool → Hp → Prop), Inv X pins σ H s → t σ H Q → wpAny (model X.prog X.w) X.A (isTrue e X.env (eval e X.env)) (TP X pins σ Q) X.xe s
def PW (X : Cx) (e : Expr) (t : TT) : Prop :=
 ∀ (whole : Sem Value) (pins : List (Addr × Obj)) (s : Shared) (σ : St) (H : Hp) (Q : Bool → Hp → Prop), Inv X pins σ H s → t σ H Q → wpAny (model X.prog X.w) X.A (isTrue e X.env whole) (TP X pins σ Q) X.xe s
theorem PW.pt (h : PW X e t) : PT X e t := h _
def PA (X : Cx) (es : List Expr) (t : TA) : Prop :=
 ∀ (pos : Pos) (pins : List (Addr × Obj)) (s : Shared) (σ : St) (H : Hp) (Q : List V → Hp → Prop), Inv X pins σ H s → t σ H Q → wpAny (model X.prog X.w) X.A (spliced (backTo pos (starEach es X.env))) (AP X pins σ Q) X.xe s
def PS (X : Cx) (st : Stmt) (t : TS) : Prop :=
 ∀ (pins : List (Addr × Obj)) (s : Shared) (σ : St) (H : Hp) (D : Ends), Inv X pins σ H s → t D σ H → wpAny (model X.prog X.w) X.A (exec st X.env) (SP X pins D) X.xe s
def PSs (X : Cx) (st : List Stmt) (t : TS) : Prop :=
 ∀ (pins : List (Addr × Obj)) (s : Shared) (σ : St) (H : Hp) (D : Ends), Inv X pins σ H s → t D σ H → wpAny (model X.prog X.w) X.A (execs st X.env) (SP X pins D) X.xe s
theorem thn {α : Type} {t : Sem α} {Q Q' : α → Shared → Prop} {M : Model} {A : Around} {E : Value → Shared → Prop} {s : Shared} (h : wpAny M A t Q E s) (hQ : ∀ a s, Q a s → Q' a s) : wpAny M A t Q' E s := wpAny_mono h hQ fun _ _ x => x
end L2
namespace L2
open PySem PySem.Spec PyProof.Rows
section
variable {X : Cx}
def lr (i : Nat) : TE := fun σ H Q => ∃ v, σ[i]? = some (some v) ∧ Q v H
def tC (v : V) : TE := fun _ H Q => Q v H
theorem uj {pos : Pos} (hN : X.N[i]? = some x) (hv : Vis X.env.scope x) (hd : (x == ("__debug__" : Str)) = false := by decide) (hcd : (x == ("__classdict__" : Str)) = false := by decide) : PE X (.Name x pos) (lr i) := by
 intro pins s σ H Q I h
 obtain ⟨v, e, h⟩ := h
 obtain ⟨m, hn, hl⟩ := I.loc
 obtain ⟨u, r, l⟩ := hl i x v hN e hv
 have fin : EP X pins σ Q u s := ⟨v, H, I, r, h⟩
 rcases l with ⟨hk, hm⟩ | ⟨hk, c, hc, hcell⟩
 · exact wpAny_Name (wpAny_loadName_local I.ok.kind hk hn hm fin) hd
 · rcases hk with hk | hk
   · exact wpAny_Name (wpAny_loadName_cell I.ok.kind hk hc hcell fin) hd
   · exact wpAny_Name (wpAny_loadName_free I.ok.kind hk hc hcell fin hcd) hd
theorem Uj {i j pos} : PE X (.Constant (.int i) j pos) (tC (.int i)) := fun _ _ _ H _ I h => wpAny_Constant_int ⟨.int i, H, I.tok _, ⟨_, rfl⟩, h⟩
theorem uk {b j pos} : PE X (.Constant (.bool b) j pos) (tC (.bl b)) := fun _ _ _ H _ I h => Constant_bool ⟨.bl b, H, I, rfl, h⟩
theorem Uk {j pos} : PE X (.Constant .none j pos) (tC .non) := fun _ _ _ H _ I h => Constant_none ⟨.non, H, I, rfl, h⟩
theorem oq {x j pos} : PE X (.Constant (.str x) j pos) (tC (.str x)) := fun _ _ _ H _ I h => Calls.Constant_str ⟨.str x, H, I.tok _, ⟨_, rfl⟩, h⟩
def Gl (X : Cx) (x : Str) : Prop := X.env.kindOf x = some .globalImplicit
theorem Hn {E : Value → Shared → Prop} {σ : St} {pos : Pos} (I : Inv X pins σ H s) (hg : Gl X x) (hm : X.mg x = some u) (h : Q u s)
    (hd : (x == ("__debug__" : Str)) = false := by decide) : wpAny (model X.prog X.w) X.A (eval (.Name x pos) X.env) Q E s :=
  Calls.Name_function_global I.ok.kind hg (Calls.loadGlobal_global (by rw [I.ok.glob]; exact I.mod.glob.keeps I.bk) hm h) hd
theorem gk {E : Value → Shared → Prop} {pins : List (Addr × Obj)} {s : Shared} {σ : St} {H : Hp} {x : Str} {u : Value} {pos : Pos} {Q : Value → Shared → Prop} (I : Inv X pins σ H s) (hg : Gl X x) (hm : X.mg x = none) (hv : bootBuiltins x = some u) (h : Q u s)
    (hn : x ≠ "__name__" := by decide) (hd : (x == ("__debug__" : Str)) = false := by decide) : wpAny (model X.prog X.w) X.A (eval (.Name x pos) X.env) Q E s := by
  obtain ⟨mb, h1, h2⟩ := I.mod.blt
  exact Calls.Name_function_global I.ok.kind hg (Calls.loadGlobal_builtin (by rw [I.ok.glob]; exact I.mod.glob.keeps I.bk) hm (by rw [I.ok.blt]; exact h1.keeps I.bk) ((h2 x hn).trans hv) h) hd
theorem Oq {pos : Pos} (hg : Gl X x) (hm : X.mg x = some u) (r : RelV v u) (hd : (x == ("__debug__" : Str)) = false := by decide) : PE X (.Name x pos) (tC v) :=
 fun _ _ _ H _ I h => Hn I hg hm ⟨v, H, I, r, h⟩ hd
theorem ot {pos : Pos} (hg : Gl X x) (hm : X.mg x = none) (hv : bootBuiltins x = some u) (r : RelV v u) (hn : x ≠ "__name__" := by decide) (hd : (x == ("__debug__" : Str)) = false := by decide) : PE X (.Name x pos) (tC v) :=
 fun _ _ _ H _ I h => gk I hg hm hv ⟨v, H, I, r, h⟩ hn hd
variable {a b : Expr} {ta tb : TE} {pos : Pos}
variable {tA tB' : TT} {rest : List Expr}
def Ul (t u : TT) : TT := fun σ H Q => t σ H fun c H1 => if c = true then u σ H1 Q else Q false H1
def tOr (t u : TT) : TT := fun σ H Q => t σ H fun c H1 => if c = true then Q true H1 else u σ H1 Q
def um (t : TT) : TT := fun σ H Q => t σ H fun c H1 => Q (!c) H1
theorem Um (ha : PT X a tA) : PW X (.BoolOp .And [a] pos) tA := by
 intro wh pins s σ H Q I h
 refine isTrue_and (thn (ha pins s σ H Q I h) fun c s1 e => ?_)
 cases c with
 | true => exact isTrue_and_nil e
 | false => exact e
theorem uo (ha : PT X a tA) : PW X (.BoolOp .Or [a] pos) tA := by
 intro wh pins s σ H Q I h
 refine isTrue_or (thn (ha pins s σ H Q I h) fun c s1 e => ?_)
 cases c with
 | false => exact isTrue_or_nil e
 | true => exact e
theorem Uo (ha : PT X a tA) (hb : PW X (.BoolOp .And (b :: rest) pos) tB') : PW X (.BoolOp .And (a :: b :: rest) pos) (Ul tA tB') := by
 intro wh pins s σ H Q I h
 refine isTrue_and (thn (ha pins s σ H _ I h) fun c s1 ⟨H1, I1, q1⟩ => ?_)
 cases c with
 | true => exact hb wh pins s1 σ H1 Q I1 q1
 | false => exact ⟨H1, I1, q1⟩
theorem Up (ha : PT X a tA) (hb : PW X (.BoolOp .Or (b :: rest) pos) tB') : PW X (.BoolOp .Or (a :: b :: rest) pos) (tOr tA tB') := by
 intro wh pins s σ H Q I h
 refine isTrue_or (thn (ha pins s σ H _ I h) fun c s1 ⟨H1, I1, q1⟩ => ?_)
 cases c with
 | true => exact ⟨H1, I1, q1⟩
 | false => exact hb wh pins s1 σ H1 Q I1 q1
theorem uq (ha : PT X a tA) : PT X (.UnaryOp .Not a pos) (um tA) := by
 intro pins s σ H Q I h
 exact isTrue_not (ha pins s σ H (fun c H1 => Q (!c) H1) I h)
def Uq (ta tb : TE) : TE := fun σ H Q => ta σ H fun x H1 => ∃ c, x = .bl c ∧ if c = true then tb σ H1 Q else Q (.bl false) H1
def ur (ta : TE) : TE := fun σ H Q => ta σ H fun x H1 => ∃ c, x = .bl c ∧ Q (.bl (!c)) H1
theorem Ur {op} (h : PE X a t) : PE X (.BoolOp op [a] pos) t := fun pins s σ H Q I hw => BoolOp_one (h pins s σ H Q I hw)
theorem Us (ha : PE X a ta) (hb : PE X (.BoolOp .And (b :: rest) pos) tb) : PE X (.BoolOp .And (a :: b :: rest) pos) (Uq ta tb) := by
 intro pins s σ H Q I h
 refine BoolOp_and (thn (ha pins s σ H _ I h) fun v s1 ⟨x, H1, I1, r1, q1⟩ => ?_)
 obtain ⟨c, rfl, q1⟩ := q1
 cases r1
 refine wpAny_truthy_bool ?_
 cases c with
 | true => exact hb pins s1 σ H1 Q I1 q1
 | false => exact ⟨.bl false, H1, I1, rfl, q1⟩
theorem Ut (ha : PE X a ta) : PE X (.UnaryOp .Not a pos) (ur ta) := by
 intro pins s σ H Q I h
 refine UnaryOp_ (thn (ha pins s σ H _ I h) fun v s1 ⟨x, H1, I1, r1, q1⟩ => ?_)
 obtain ⟨c, rfl, q1⟩ := q1
 cases r1
 exact not_of (wpAny_truthy_bool ⟨.bl (!c), H1, I1, rfl, q1⟩)
end
end L2
namespace L2
open PySem PySem.Spec PyProof.Rows
def SqL (K : PySem.W.Frag) (H : Hp) (a : Addr) (xs : List V) : Prop :=
 Rd H a (.lst xs) ∨
  ∃ (o : Obj) (its : Array Value) (n : Nat), K.lookup a = some o ∧ o.cls = .type "list" ∧ o.dict = none ∧ o.data = .seq its n ∧ its.size ≤ sizeLine ∧ Vals xs its.toList
def SqT (K : PySem.W.Frag) (H : Hp) (a : Addr) (xs : List V) : Prop :=
 Rd H a (.tup xs) ∨
  ∃ (o : Obj) (its : Array Value) (n : Nat), K.lookup a = some o ∧ o.cls = .type "tuple" ∧ o.data = .seq its n ∧ its.size ≤ sizeLine ∧ Vals xs its.toList
def uu : Value → Option V
 | .none => some .non
 | .bool b => some (.bl b)
 | .int i _ => some (.int i)
 | .str x _ => some (.str x)
 | .bytes b _ => some (.byt b)
 | .float b _ => some (.flt b)
 | .ref a => some (.ref a)
 | .type n => some (.ty n)
 | _ => none
theorem RelV.abs (r : RelV x u) : uu u = some x := by
 cases x with
 | non => cases r; rfl
 | bl _ => cases r; rfl
 | int _ => obtain ⟨t, rfl⟩ := r; rfl
 | str _ => obtain ⟨t, rfl⟩ := r; rfl
 | byt _ => obtain ⟨t, rfl⟩ := r; rfl
 | flt _ => obtain ⟨t, rfl⟩ := r; rfl
 | ref _ => cases r; rfl
 | ty _ => cases r; rfl
theorem RelV.inj {x y : V} {u : Value} (r : RelV x u) (q : RelV y u) : x = y := Option.some.inj (r.abs.symm.trans q.abs)
theorem Vals.inj : ∀ {xs ys : List V} {us : List Value}, Vals xs us → Vals ys us → xs = ys
 | _, _, _, .nil, .nil => rfl
 | _, _, _, .cons r t, .cons r' t' => by rw [r.inj r', Vals.inj t t']
section
variable {X : Cx} {pins : List (Addr × Obj)} {σ : St} {H : Hp} {s : Shared} {a : Addr} {xs ys : List V}
theorem SqL.of {K : PySem.W.Frag} (h : H a = some (.lst xs)) : SqL K H a xs := .inl (.inl h)
theorem SqT.of {K : PySem.W.Frag} (h : H a = some (.tup xs)) : SqT K H a xs := .inl (.inl h)
theorem Inv.list (I : Inv X pins σ H s) (h : SqL X.K H a xs) : ∃ its : List Value, Vals xs its ∧ PlainL s.heap a its.toArray ∧ xs.length ≤ sizeLine := by
 rcases h with h | ⟨o, its, n, hk, hc, hd, hs, hz, r⟩
 · obtain ⟨z, its, n, r, e⟩ := h.ok I.hok
   exact ⟨its, r, ⟨_, n, e, rfl, rfl, rfl⟩, z⟩
 · refine ⟨its.toList, r, ⟨o, n, I.kIn a o hk, hc, hd, by simpa using hs⟩, ?_⟩
   have e := r.length
   simp only [Array.length_toList] at e
   omega
theorem Inv.tuple (I : Inv X pins σ H s) (h : SqT X.K H a xs) : ∃ its : List Value, Vals xs its ∧ IsTup s.heap a its.toArray ∧ xs.length ≤ sizeLine := by
 rcases h with h | ⟨o, its, n, hk, hc, hs, hz, r⟩
 · obtain ⟨z, its, r, p⟩ := h.ok I.hok
   exact ⟨its, r, p, z⟩
 · refine ⟨its.toList, r, ⟨o, I.kIn a o hk, hc, n, by simpa using hs⟩, ?_⟩
   have e := r.length
   simp only [Array.length_toList] at e
   omega
theorem Inv.list_inj (I : Inv X pins σ H s) (h : SqL X.K H a xs) (h' : SqL X.K H a ys) : xs = ys := by
 obtain ⟨its, r, ⟨o, n, e, _, _, d⟩, _⟩ := I.list h
 obtain ⟨its', r', ⟨o', n', e', _, _, d'⟩, _⟩ := I.list h'
 rw [e] at e'; cases e'
 rw [d] at d'
 injection d' with d1 _
 have : its = its' := by simpa using congrArg Array.toList d1
 subst this
 exact r.inj r'
theorem Inv.tuple_inj (I : Inv X pins σ H s) (h : SqT X.K H a xs) (h' : SqT X.K H a ys) : xs = ys := by
 obtain ⟨its, r, ⟨o, e, _, n, d⟩, _⟩ := I.tuple h
 obtain ⟨its', r', ⟨o', e', _, n', d'⟩, _⟩ := I.tuple h'
 rw [e] at e'; cases e'
 rw [d] at d'
 injection d' with d1 _
 have : its = its' := by simpa using congrArg Array.toList d1
 subst this
 exact r.inj r'
end
abbrev Cx.wish (X : Cx) (E : Value → Shared → Prop) : Cx := { X with xe := E }
abbrev Cx.nox (X : Cx) : Cx := X.wish fun _ _ => False
theorem Cx.Ok.wish {X : Cx} (ok : X.Ok) (E : Value → Shared → Prop) : (X.wish E).Ok :=
 ⟨ok.mod, ok.kind, ok.glob, ok.blt, ok.above, ok.inj, ok.has, ok.cab, ok.hd, ok.frames, ok.stk, ok.exf, ok.bs, ok.bsz, ok.noex, ok.exfs, ok.funs, ok.frf⟩
theorem Cx.Ok.unwish {X : Cx} {E : Value → Shared → Prop} (ok : (X.wish E).Ok) : X.Ok :=
 ⟨ok.mod, ok.kind, ok.glob, ok.blt, ok.above, ok.inj, ok.has, ok.cab, ok.hd, ok.frames, ok.stk, ok.exf, ok.bs, ok.bsz, ok.noex, ok.exfs, ok.funs, ok.frf⟩
section
variable {X : Cx} {pins : List (Addr × Obj)} {σ : St} {H : Hp} {s : Shared} {E : Value → Shared → Prop}
theorem Inv.wish (I : Inv X pins σ H s) (E : Value → Shared → Prop) : Inv (X.wish E) pins σ H s := ⟨I.ok.wish E, I.os, I.bare, I.base, I.loc, I.cell, I.free, I.freeC, I.pin, I.hok, I.len⟩
theorem Inv.unwish (I : Inv (X.wish E) pins σ H s) : Inv X pins σ H s := ⟨I.ok.unwish, I.os, I.bare, I.base, I.loc, I.cell, I.free, I.freeC, I.pin, I.hok, I.len⟩
theorem SP.unwish (h : SP (X.wish E) pins D f s') : SP X pins D f s' := by
 cases f with
 | next => obtain ⟨σ', H', I, q⟩ := h; exact ⟨σ', H', I.unwish, q⟩
 | brk => obtain ⟨σ', H', I, q⟩ := h; exact ⟨σ', H', I.unwish, q⟩
 | cont => obtain ⟨σ', H', I, q⟩ := h; exact ⟨σ', H', I.unwish, q⟩
 | ret u => obtain ⟨v, σ', H', I, r, q⟩ := h; exact ⟨v, σ', H', I.unwish, r, q⟩
theorem PE.nox (h : PE X.nox e t) : PE X e t := fun pins s σ H Q I hw =>
 wpAny_mono (h pins s σ H Q (I.wish _) hw) (fun _ _ ⟨v, H', I', r, q⟩ => ⟨v, H', I'.unwish, r, q⟩) fun _ _ z => False.elim z
theorem PT.nox (h : PT X.nox e t) : PT X e t := fun pins s σ H Q I hw =>
 wpAny_mono (h pins s σ H Q (I.wish _) hw) (fun _ _ ⟨H', I', q⟩ => ⟨H', I'.unwish, q⟩) fun _ _ z => False.elim z
theorem PSs.nox {st : List Stmt} {t : TS} (h : PSs X.nox st t) : PSs X st t := fun pins s σ H D I hw =>
 wpAny_mono (h pins s σ H D (I.wish _) hw) (fun _ _ q => q.unwish) fun _ _ z => False.elim z
end
section
variable {X : Cx} {st : Stmt} {rest : List Stmt} {t u : TS} {e : Expr} {te : TE} {pos : Pos}
def Uu : TS := fun D σ H => D.nx σ H
def uv (t u : TS) : TS := fun D σ H => t { D with nx := u D } σ H
theorem Uv : PSs X [] Uu := fun _ _ σ H _ I h => wpAny_execs_nil ⟨σ, H, I, h⟩
theorem uw (h1 : PS X st t) (h2 : PSs X rest u) : PSs X (st :: rest) (uv t u) := by
 intro pins s σ H D I h
 refine wpAny_execs_cons (thn (h1 pins s σ H { D with nx := u D } I h) fun f s1 q => ?_)
 cases f with
 | next =>
  obtain ⟨σ', H', I', q⟩ := q
  exact h2 pins s1 σ' H' D I' q
 | ret v => exact q
 | brk => exact q
 | cont => exact q
theorem Inv.quiet {pins : List (Addr × Obj)} {σ : St} {H : Hp} {s : Shared} (I : Inv X pins σ H s) : interactive X.env = false := by simp [interactive, I.ok.kind]
def Uw (te : TE) : TS := fun D σ H => te σ H fun _ H1 => D.nx σ H1
theorem ux (he : PE X e te) (hs : swapsWith e none pos.line X.env = pure false := by rfl) : PS X (.Expr e pos) (Uw te) := by
 intro pins s σ H D I h
 exact wpAny_Expr_any (thn (he pins s σ H _ I h) fun v s1 ⟨x, H1, I1, r1, q1⟩ => ⟨σ, H1, I1, q1⟩) I.quiet hs
def Ux (te : TE) : TS := fun D σ H => te σ H D.rt
theorem uy (he : PE X e te) : PS X (.Return (some e) pos) (Ux te) := by
 intro pins s σ H D I h
 exact wpAny_Return_some (thn (he pins s σ H _ I h) fun v s1 ⟨x, H1, I1, r1, q1⟩ => ⟨x, σ, H1, I1, r1, q1⟩)
def Uy (c : TT) (t u : TS) : TS := fun D σ H => c σ H fun b H1 => if b = true then t D σ H1 else u D σ H1
theorem uz {c : Expr} {a b : List Stmt} {tc : TT} (hc : PT X c tc) (ha : PSs X a t) (hb : PSs X b u) : PS X (.If c a b pos) (Uy tc t u) := by
 intro pins s σ H D I h
 refine wpAny_If (thn (hc pins s σ H _ I h) fun d s1 ⟨H1, I1, q1⟩ => ?_)
 cases d with
 | true => exact ha pins s1 σ H1 D I1 q1
 | false => exact hb pins s1 σ H1 D I1 q1
end
abbrev TG := V → St → Hp → (St → Hp → Prop) → Prop
abbrev TGs := List V → St → Hp → (St → Hp → Prop) → Prop
def PG (X : Cx) (target : Expr) (t : TG) : Prop :=
 ∀ (pins : List (Addr × Obj)) (s : Shared) (σ : St) (H : Hp) (v : V) (u : Value) (Q : St → Hp → Prop), Inv X pins σ H s → RelV v u → t v σ H Q →
  wpAny (model X.prog X.w) X.A (assign target X.env u) (fun _ s' => ∃ σ' H', Inv X pins σ' H' s' ∧ Q σ' H') X.xe s
def PGs (X : Cx) (ts : List Expr) (t : TGs) : Prop :=
 ∀ (pins : List (Addr × Obj)) (s : Shared) (σ : St) (H : Hp) (vs : List V) (us : List Value) (Q : St → Hp → Prop), Inv X pins σ H s → Vals vs us → t vs σ H Q →
  wpAny (model X.prog X.w) X.A (assignInOrder ((assignEach ts X.env).map (·.2)) us) (fun _ s' => ∃ σ' H', Inv X pins σ' H' s' ∧ Q σ' H') X.xe s
abbrev Uz := V → V → V → Hp → (Hp → Prop) → Prop
def Va (X : Cx) (t : Uz) : Prop :=
 ∀ (pins : List (Addr × Obj)) (s : Shared) (σ : St) (H : Hp) (o i v : V) (ov iv u : Value) (Q : Hp → Prop), Inv X pins σ H s → RelV o ov → RelV i iv → RelV v u → t o i v H Q →
  wpAny (model X.prog X.w) X.A (setItem ov iv u) (fun _ s' => ∃ H', Inv X pins σ H' s' ∧ Q H') X.xe s
abbrev TIp := V → V → Hp → VK → Prop
def PIp (X : Cx) (op : Operator) (t : TIp) : Prop :=
 ∀ (pins : List (Addr × Obj)) (s : Shared) (σ : St) (H : Hp) (x y : V) (v u : Value) (Q : VK), Inv X pins σ H s → RelV x v → RelV y u → t x y H Q →
  wpAny (model X.prog X.w) X.A (inplaceOp op v u) (EP X pins σ Q) X.xe s
section
variable {X : Cx} {pos : Pos}
def jg (i : Nat) : TG := fun v σ H Q => Q (σ.set i (some v)) H
theorem cy (hN : X.N.Nodup) (hi : X.N[i]? = some x) (hx : Loc X.env.scope x) (hf : X.fn x = true ∨ X.env.scope.names.lookup x = some .local := by first | exact .inl rfl | exact .inr rfl | assumption) : PG X (.Name x pos) (jg i) := by
 intro pins s σ H v u Q I r h
 exact wpAny_assign_Name (Jf I hN hi hx r (fun s' I' => ⟨_, H, I', h⟩) hf)
def Ot : TGs := fun vs σ H Q => vs = [] ∧ Q σ H
def ou (t : TG) (u : TGs) : TGs := fun vs σ H Q => ∃ v r, vs = v :: r ∧ t v σ H fun σ' H' => u r σ' H' Q
theorem Ho : PGs X [] Ot := by
 intro pins s σ H vs us Q I r h
 obtain ⟨e, h⟩ := h
 subst e
 cases r
 exact assignInOrder_nil ⟨σ, H, I, h⟩
theorem dg {e : Expr} {es : List Expr} {t : TG} {u : TGs} (h1 : PG X e t) (h2 : PGs X es u)
    (hs : (assignEach (e :: es) X.env).map (·.2) = assign e X.env :: (assignEach es X.env).map (·.2) := by rfl) : PGs X (e :: es) (ou t u) := by
  intro pins s σ H vs us Q I r h
  obtain ⟨v, vr, e1, h⟩ := h
  subst e1
  cases r with
  | cons r rr =>
    rw [hs]
    refine assignInOrder_cons (thn (h1 pins s σ H _ _ _ I r h) fun _ s1 ⟨σ1, H1, I1, q1⟩ => ?_)
    exact h2 pins s1 σ1 H1 _ _ Q I1 rr q1
def Ou (K : PySem.W.Frag) (n : Nat) (t : TGs) : TG := fun v σ H Q => ∃ a xs, v = .ref a ∧ SqT K H a xs ∧ xs.length = n ∧ t xs σ H Q
theorem Hq {k : Nat} (hc : X.calm = true) (h : PGs X es t)
    (hn : (assignEach es X.env).length = n := by rfl) (hst : (assignEach es X.env).findIdx? (·.1) = none := by rfl) : PG X (.Tuple es k pos) (Ou X.K n t) := by
  intro pins s σ H v u Q I r hw
  obtain ⟨a, xs, e1, hq, hl, hw⟩ := hw
  subst e1
  cases r
  obtain ⟨its, rv, ht, hz⟩ := I.tuple hq
  refine assign_Tuple_tuple (I.ok.hd hc) ht (by simp [hn, ← hl, rv.length]) hst fun h' hx => ?_
  have I1 : Inv X pins σ H { s with heap := h' } := I.kept (t' := s.toks) fun b o e => hx b o (Nat.ne_of_lt (Heap.lt_size e)) e
  exact h pins _ σ H xs _ Q I1 (by simpa using rv) hw
def Ov (te : TE) (g : TG) : TS := fun D σ H => te σ H fun x H1 => g x σ H1 D.nx
theorem Vb {tg e : Expr} {te : TE} {g : TG} (he : PE X e te) (hg : PG X tg g) (hs : swapsWithSole [tg] e pos.line X.env = pure false := by rfl) (hw : swappedStores [tg] e X.env = pure none := by rfl)
    (h1 : (assignEach [tg] X.env).map (·.2) = [assign tg X.env] := by rfl) : PS X (.Assign [tg] e pos) (Ov te g) := by
  intro pins s σ H D I h
  refine wpAny_Assign_stores (thn (he pins s σ H _ I h) fun v s1 ⟨x, H1, I1, r1, q1⟩ => ?_) hs hw
  rw [h1]
  exact thn (hg pins s1 σ H1 x v _ I1 r1 q1) fun _ s2 q => q
theorem vc {i : Nat} {x : Str} {e : Expr} {te : TE} {pos' : Pos} (hN : X.N.Nodup) (hi : X.N[i]? = some x) (hx : Loc X.env.scope x) (he : PE X e te) (hs : swapsWith e (some (.Name x pos')) pos.line X.env = pure false := by rfl) (hf : X.fn x = true ∨ X.env.scope.names.lookup x = some .local := by first | exact .inl rfl | exact .inr rfl | assumption) :
    PS X (.Assign [.Name x pos'] e pos) (Ov te (jg i)) := by
  intro pins s σ H D I h
  refine wpAny_Assign_Name (thn (he pins s σ H _ I h) fun v s1 ⟨y, H1, I1, r1, q1⟩ => ?_) hs
  exact Jf I1 hN hi hx r1 (fun s2 I2 => ⟨_, H1, I2, q1⟩) hf
def ow (i : Nat) (te : TE) (ti : TIp) : TS := fun D σ H => ∃ x, σ[i]? = some (some x) ∧ te σ H fun y H1 => ti x y H1 fun z H2 => D.nx (σ.set i (some z)) H2
theorem Vc {i : Nat} {x : Str} {e : Expr} {te : TE} {op : Operator} {ti : TIp} {pos' : Pos} (hN : X.N.Nodup) (hi : X.N[i]? = some x) (hx : Loc X.env.scope x) (he : PE X e te) (ho : PIp X op ti) (hf : X.fn x = true ∨ X.env.scope.names.lookup x = some .local := by first | exact .inl rfl | exact .inr rfl | assumption) :
    PS X (.AugAssign (.Name x pos') op e pos) (ow i te ti) := by
  intro pins s σ H D I h
  obtain ⟨v, e1, h⟩ := h
  obtain ⟨m, hn, hl⟩ := I.loc
  have vis : Vis X.env.scope x := by rcases hx with k | k; exact .inl k; exact .inr (.inl k)
  obtain ⟨u, r, l⟩ := hl i x v hi e1 vis
  refine wpAny_AugAssign_Name ?_
  have go : wpAny (model X.prog X.w) X.A (eval e X.env) (fun w s₂ => wpAny (model X.prog X.w) X.A (inplaceOp op u w) (fun r s₃ => wpAny (model X.prog X.w) X.A (storeName X.env x r) (fun _ => SP X pins D .next) X.xe s₃) X.xe s₂) X.xe s := by
    refine thn (he pins s σ H _ I h) fun w s1 ⟨y, H1, I1, r1, q1⟩ => ?_
    refine thn (ho pins s1 σ H1 v y u w _ I1 r r1 q1) fun z s2 ⟨zv, H2, I2, r2, q2⟩ => ?_
    exact Jf I2 hN hi hx r2 (fun s3 I3 => ⟨_, H2, I3, q2⟩) hf
  rcases l with ⟨hk, hm⟩ | ⟨hk, c, hc, hcell⟩
  · exact wpAny_loadName_local I.ok.kind hk hn hm go
  · rcases hk with hk | hk
    · exact wpAny_loadName_cell I.ok.kind hk hc hcell go
    · rcases hx with k | k
      · have : X.env.scope.names.lookup x = some .free := hk
        rw [k] at this; cases this
      · have : X.env.scope.names.lookup x = some .free := hk
        rw [k] at this; cases this
end
section
variable {X : Cx} {pos : Pos}
end
structure It where
 go : Nat → Hp → Prop
 yld : Nat → Hp → V → Hp → Prop
 stop : Nat → Hp → Prop
def Cy (X : Cx) (pins : List (Addr × Obj)) (H : Hp) (b : Addr) : Prop :=
 H b = none ∧ b ≠ X.env.locals ∧ b ∉ X.fs ∧ (b ∈ X.ex ∨ X.s₀.heap.objs.size ≤ b) ∧ (∀ x c, X.env.cells.lookup x = some c → c ≠ b) ∧ ∀ p ∈ X.pn ++ pins, p.1 ≠ b
theorem Inv.fpOk {X : Cx} {pins : List (Addr × Obj)} {σ : St} {H H' : Hp} {s : Shared} {b : Addr} (I : Inv X pins σ H s) (hb : s.heap.objs.size ≤ b) (hn : H' b = none) : Cy X pins H' b := by
 refine ⟨hn, Nat.ne_of_gt (Nat.lt_of_lt_of_le I.lt hb), I.nofs hb, .inr (Nat.le_trans I.sz hb), fun x c e z => ?_, fun p hp z => ?_⟩
 · obtain ⟨v, q⟩ := I.cell x c e
   exact absurd (Nat.lt_of_lt_of_le q.lt (by rw [z]; exact hb)) (Nat.lt_irrefl _)
 · exact absurd (Nat.lt_of_lt_of_le (Heap.lt_size (I.pin p hp).1) (by rw [z]; exact hb)) (Nat.lt_irrefl _)
structure Turn (P : Program) (w : World) (K : PySem.W.Frag) (tg : Expr) (J : It) (fp : List Addr) (it : Addr) (tn : Nat → Heap → Prop) : Prop where
 mem : it ∈ fp
 obj : ∀ i h, tn i h → ∀ b ∈ fp, ∃ o, h.get? b = some o ∧ ∀ v, o.data ≠ .cell v
 keep : ∀ i h h', tn i h → (∀ b ∈ fp, ∀ o, h.get? b = some o → h'.get? b = some o) → tn i h'
 item : ∀ (X : Cx), X.prog = P → X.w = w → X.K = K → X.calm = true → ∀ (i : Nat) (pins : List (Addr × Obj)) (s : Shared) (σ : St) (H : Hp) (E : Value → Shared → Prop), Inv X pins σ H s → (∀ b ∈ fp, Cy X pins H b) → tn i s.heap → J.go i H →
  wpAny (model P w) X.A (pyNext (.ref it)) (fun r s1 => ∃ u, r = some u ∧
   wpAny (model P w) X.A (letOwnedTupleGo tg (.ref it) u) (fun _ s2 => ∃ x H', Inv X pins σ H' s2 ∧ RelV x u ∧ J.yld i H x H' ∧ tn (i + 1) s2.heap ∧ ∀ b ∈ fp, H' b = none) E s1) E s
 done : ∀ (X : Cx), X.prog = P → X.w = w → X.K = K → X.calm = true → ∀ (i : Nat) (pins : List (Addr × Obj)) (s : Shared) (σ : St) (H : Hp) (E : Value → Shared → Prop), Inv X pins σ H s → (∀ b ∈ fp, Cy X pins H b) → tn i s.heap → J.stop i H →
  wpAny (model P w) X.A (pyNext (.ref it)) (fun r s1 => r = none ∧ Inv X pins σ H s1) E s
 self : ∀ (A : Around) (i : Nat) (s : Shared) (Q : Value → Shared → Prop) (E : Value → Shared → Prop), tn i s.heap → Q (.ref it) s → wpAny (model P w) A (pyIter (.ref it)) Q E s
abbrev TI := St → Hp → (It → Hp → Prop) → Prop
def PIE (X : Cx) (pins : List (Addr × Obj)) (σ : St) (tg : Expr) (R : It → Hp → Prop) (itv : Value) (s2 : Shared) : Prop :=
 ∃ (it : Addr) (fp : List Addr) (tn : Nat → Heap → Prop) (J : It) (H' : Hp), itv = .ref it ∧ Inv X pins σ H' s2 ∧ Turn X.prog X.w X.K tg J fp it tn ∧ tn 0 s2.heap ∧ (∀ b ∈ fp, Cy X pins H' b) ∧ R J H'
def PI (X : Cx) (tg iter : Expr) (wi : TI) : Prop :=
 ∀ (pins : List (Addr × Obj)) (s : Shared) (σ : St) (H : Hp) (R : It → Hp → Prop), Inv X pins σ H s → wi σ H R →
  wpAny (model X.prog X.w) X.A (eval iter X.env) (fun v s1 => wpAny (model X.prog X.w) X.A (pyIter v) (PIE X pins σ tg R) X.xe s1) X.xe s
theorem Jg (ho : s.heap.get? it = some o) (hc : o.cls = .type n) (hd : o.data = .fields vs)
    (hn : ["enumerate", "zip", "dict_itemiterator", "dict_reverseitemiterator", "odict_iterator", "itertools.zip_longest", "itertools.pairwise"].contains n = false) (hQ : Q () s) : wpAny M A (letOwnedTupleGo tg (.ref it) u) Q E s := by
  unfold letOwnedTupleGo
  cases tg <;> first
    | exact wpAny_pure hQ
    | (cases u <;> first
        | exact wpAny_pure hQ
        | (refine wpAny_bind (wpAny_load ho ?_)
           rw [hc, hd]
           show wpAny M A (if (["enumerate", "zip", "dict_itemiterator", "dict_reverseitemiterator", "odict_iterator", "itertools.zip_longest", "itertools.pairwise"].contains n && vs[0]? == some (rawInt _)) = true then _ else _) Q E s
           rw [if_neg (by intro h; rw [hn, Bool.false_and] at h; cases h)]
           exact wpAny_pure hQ))
def Itl (K : PySem.W.Frag) (a : Addr) : It :=
 ⟨fun i H => ∃ xs x, SqL K H a xs ∧ xs[i]? = some x, fun i H x H' => H' = H ∧ ∀ xs, SqL K H a xs → xs[i]? = some x, fun i H => ∃ xs, SqL K H a xs ∧ xs.length ≤ i⟩
def Itt (K : PySem.W.Frag) (a : Addr) : It :=
 ⟨fun i H => ∃ xs x, SqT K H a xs ∧ xs[i]? = some x, fun i H x H' => H' = H ∧ ∀ xs, SqT K H a xs → xs[i]? = some x, fun i H => ∃ xs, SqT K H a xs ∧ xs.length ≤ i⟩
def Itr (lo : Int) (n : Nat) : It := ⟨fun i _ => i < n, fun i H x H' => H' = H ∧ x = .int (lo + i), fun i _ => n ≤ i⟩
theorem vd {P : Program} {w : World} {K : PySem.W.Frag} {tg : Expr} (a it : Addr) : Turn P w K tg (Itl K a) [it] it (fun i h => h.IsListIter it a i) where
 mem := by simp
 obj := fun i h st b hb => by
  have e : b = it := by simpa using hb
  subst e
  obtain ⟨o, e, c, d⟩ := st
  exact ⟨o, e, fun v z => by rw [d] at z; cases z⟩
 keep := fun i h h' st k => st.at fun o e => k it (by simp) o e
 item := by
  intro X hP hw hK hc i pins s σ H E I hf st hg
  subst hP hw hK
  obtain ⟨xs, x, hq, hx⟩ := hg
  obtain ⟨its, rv, p, hz⟩ := I.list hq
  obtain ⟨u, hu, ru⟩ := rv.get hx
  obtain ⟨f0, f1, f2, f3, f4, f5⟩ := hf it (by simp)
  refine wpAny_pyNext_list_item st p.isList (x := u) (by simpa using hu) fun h' st' sb => ?_
  have I1 : Inv X pins σ H { s with heap := h' } := I.turned (t' := s.toks) (fun b o hb e => (sb.2 b hb).trans e) f0 f1 f3 f4 f5
  obtain ⟨o, e, c, d⟩ := id st'
  exact ⟨u, rfl, Jg (s := { s with heap := h' }) e c d (by decide) ⟨x, H, I1, ru, ⟨rfl, fun ys hy => by rw [I.list_inj hy hq]; exact hx⟩, st', fun b hb => (hf b hb).1⟩⟩
 done := by
  intro X hP hw hK hc i pins s σ H E I hf st hg
  subst hP hw hK
  obtain ⟨xs, hq, hx⟩ := hg
  obtain ⟨its, rv, p, hz⟩ := I.list hq
  obtain ⟨f0, f1, f2, f3, f4, f5⟩ := hf it (by simp)
  have hl := rv.length
  exact wpAny_pyNext_list_end (I.ok.hd hc) st p.isList (by simp; omega) fun h' eb => ⟨rfl, I.turned (t' := s.toks) (fun b o hb e => eb b o hb e) f0 f1 f3 f4 f5⟩
 self := fun _ _ _ _ _ st h => wpAny_pyIter_listiter st h
theorem Vd {P : Program} {w : World} {K : PySem.W.Frag} {tg : Expr} (a it : Addr) : Turn P w K tg (Itt K a) [it] it (fun i h => h.IsTupleIter it a i) where
 mem := by simp
 obj := fun i h st b hb => by
  have e : b = it := by simpa using hb
  subst e
  obtain ⟨o, e, c, d⟩ := st
  exact ⟨o, e, fun v z => by rw [d] at z; cases z⟩
 keep := fun i h h' st k => st.at fun o e => k it (by simp) o e
 item := by
  intro X hP hw hK hc i pins s σ H E I hf st hg
  subst hP hw hK
  obtain ⟨xs, x, hq, hx⟩ := hg
  obtain ⟨its, rv, p, hz⟩ := I.tuple hq
  obtain ⟨u, hu, ru⟩ := rv.get hx
  obtain ⟨f0, f1, f2, f3, f4, f5⟩ := hf it (by simp)
  refine wpAny_pyNext_tuple_item st (show s.heap.IsTuple a its.toArray from p) (x := u) (by simpa using hu) fun h' st' sb => ?_
  have I1 : Inv X pins σ H { s with heap := h' } := I.turned (t' := s.toks) (fun b o hb e => (sb.2 b hb).trans e) f0 f1 f3 f4 f5
  obtain ⟨o, e, c, d⟩ := id st'
  exact ⟨u, rfl, Jg (s := { s with heap := h' }) e c d (by decide) ⟨x, H, I1, ru, ⟨rfl, fun ys hy => by rw [I.tuple_inj hy hq]; exact hx⟩, st', fun b hb => (hf b hb).1⟩⟩
 done := by
  intro X hP hw hK hc i pins s σ H E I hf st hg
  subst hP hw hK
  obtain ⟨xs, hq, hx⟩ := hg
  obtain ⟨its, rv, p, hz⟩ := I.tuple hq
  obtain ⟨f0, f1, f2, f3, f4, f5⟩ := hf it (by simp)
  have hl := rv.length
  exact wpAny_pyNext_tuple_end (I.ok.hd hc) st (show s.heap.IsTuple a its.toArray from p) (by simp; omega) fun h' eb => ⟨rfl, I.turned (t' := s.toks) (fun b o hb e => eb b o hb e) f0 f1 f3 f4 f5⟩
 self := fun _ _ _ _ _ st h => wpAny_pyIter_tupleiter st h
theorem ve {P : Program} {w : World} {K : PySem.W.Frag} {tg : Expr} (it : Addr) (lo : Int) (n : Nat) : Turn P w K tg (Itr lo n) [it] it (fun i h => IsRangeIter h it (lo + (i : Nat) * 1) ((n : Int) - (i : Nat)) 1) where
 mem := by simp
 obj := fun i h st b hb => by
  have e : b = it := by simpa using hb
  subst e
  exact ⟨_, st, fun v z => by
   have z' : Data.fields _ = Data.cell v := z
   cases z'⟩
 keep := fun i h h' st k => k it (by simp) _ st
 item := by
  intro X hP hw hK hc i pins s σ H E I hf st hg
  subst hP hw hK
  obtain ⟨f0, f1, f2, f3, f4, f5⟩ := hf it (by simp)
  have W := Walks.range (prog := X.prog) (w := X.w) (I.ok.hd hc) it lo 1 n
  refine W.item i s _ _ hg st fun v h' tk hv st' kk => ?_
  obtain ⟨t, rfl⟩ := hv
  have I1 : Inv X pins σ H { s with heap := h', toks := tk } := I.turned (fun b o hb e => kk b o (by simpa using hb) e) f0 f1 f3 f4 f5
  refine ⟨_, rfl, Jg (s := { s with heap := h', toks := tk }) (n := "range_iterator") st' rfl rfl (by decide) ⟨.int (lo + i), H, I1, ⟨t, ?_⟩, ⟨rfl, rfl⟩, st', fun b hb => (hf b hb).1⟩⟩
  rw [Int.mul_one]
 done := by
  intro X hP hw hK hc i pins s σ H E I hf st hg
  subst hP hw hK
  obtain ⟨f0, f1, f2, f3, f4, f5⟩ := hf it (by simp)
  exact wpAny_pyNext_range_end (I.ok.hd hc) st (by have : n ≤ i := hg; omega) fun h' eb => ⟨rfl, I.turned (t' := s.toks) (fun b o hb e => eb b o hb e) f0 f1 f3 f4 f5⟩
 self := fun _ _ _ _ _ st h => wpAny_pyIter_rangeiter st h
end L2
namespace L2
open PySem PySem.Spec PyProof.Rows
section
variable {X : Cx} {tg : Expr}
def Ve (K : PySem.W.Frag) (tl : TE) : TI := fun σ H R => tl σ H fun x H1 => ∃ a, x = .ref a ∧ (∃ xs, SqL K H1 a xs) ∧ R (Itl K a) H1
def vf (K : PySem.W.Frag) (tl : TE) : TI := fun σ H R => tl σ H fun x H1 => ∃ a, x = .ref a ∧ (∃ xs, SqT K H1 a xs) ∧ R (Itt K a) H1
theorem Ow {l : Expr} {tl : TE} (hl : PE X l tl) : PI X tg l (Ve X.K tl) := by
 intro pins s σ H R I h
 refine thn (hl pins s σ H _ I h) fun v s1 ⟨x, H1, I1, r1, q1⟩ => ?_
 obtain ⟨a, e, ⟨xs, hq⟩, q⟩ := q1
 subst e
 cases r1
 obtain ⟨its, rv, p, hz⟩ := I1.list hq
 refine wpAny_pyIter_list p.isList ?_
 refine ⟨s1.heap.objs.size, [s1.heap.objs.size], _, _, H1, rfl, I1.kept (t' := s1.toks) fun b o e => Heap.get?_push_of_some _ e, vd a _, ⟨_, Heap.get?_push_size _ rfl, rfl, rfl⟩, fun b hb => ?_, q⟩
 have e : b = s1.heap.objs.size := by simpa using hb
 subst e
 exact I1.fpOk (Nat.le_refl _) (I1.hok.fresh (Nat.le_refl _))
theorem ox {l : Expr} {tl : TE} (hl : PE X l tl) : PI X tg l (vf X.K tl) := by
 intro pins s σ H R I h
 refine thn (hl pins s σ H _ I h) fun v s1 ⟨x, H1, I1, r1, q1⟩ => ?_
 obtain ⟨a, e, ⟨xs, hq⟩, q⟩ := q1
 subst e
 cases r1
 obtain ⟨its, rv, p, hz⟩ := I1.tuple hq
 refine wpAny_pyIter_tuple (show s1.heap.IsTuple a its.toArray from p) ?_
 refine ⟨s1.heap.objs.size, [s1.heap.objs.size], _, _, H1, rfl, I1.kept (t' := s1.toks) fun b o e => Heap.get?_push_of_some _ e, Vd a _, ⟨_, Heap.get?_push_size _ rfl, rfl, rfl⟩, fun b hb => ?_, q⟩
 have e : b = s1.heap.objs.size := by simpa using hb
 subst e
 exact I1.fpOk (Nat.le_refl _) (I1.hok.fresh (Nat.le_refl _))
theorem Vf {pins : List (Addr × Obj)} {σ : St} {H : Hp} {s : Shared} {R : It → Hp → Prop} {E : Value → Shared → Prop} {lo hi : Int} {t u v : Tok} {tk : Nat} (I : Inv X pins σ H s) (h1 : -(2 ^ 62) ≤ lo) (h2 : lo < 2 ^ 62) (h3 : -(2 ^ 62) ≤ hi) (h4 : hi < 2 ^ 62)
    (q : R (Itr lo (hi - lo).toNat) H) : wpAny (model X.prog X.w) X.A (pyIter (.ref s.heap.objs.size)) (PIE X pins σ tg R) E { s with heap := s.heap.push { cls := .type "range", data := .fields #[.int lo t, .int hi u, .int 1 v] }, toks := tk } := by
  refine wpAny_pyIter_range (IsRange.new ..) (small_one h1 h2 h3 h4) ?_
  have I1 : Inv X pins σ H { s with heap := s.heap.push { cls := .type "range", data := .fields #[.int lo t, .int hi u, .int 1 v] }, toks := tk } := I.kept fun b o e => Heap.get?_push_of_some _ e
  refine ⟨(s.heap.push { cls := .type "range", data := .fields #[.int lo t, .int hi u, .int 1 v] }).objs.size, [(s.heap.push { cls := .type "range", data := .fields #[.int lo t, .int hi u, .int 1 v] }).objs.size], _, _, H, rfl,
    I1.kept (t' := tk) fun b o e => Heap.get?_push_of_some _ e, ve _ lo (hi - lo).toNat, ?_, fun b hb => ?_, q⟩
  · have e1 : lo + ((0 : Nat) : Int) * 1 = lo := by simp
    have e2 : (((hi - lo).toNat : Nat) : Int) - ((0 : Nat) : Int) = Builtin.Range.rangeSize lo hi 1 := by rw [rangeSize_one]; split <;> omega
    show IsRangeIter _ _ (lo + ((0 : Nat) : Int) * 1) ((((hi - lo).toNat : Nat) : Int) - ((0 : Nat) : Int)) 1
    rw [e1, e2]
    exact Heap.get?_push_size _ rfl
  · have e : b = (s.heap.push { cls := .type "range", data := .fields #[.int lo t, .int hi u, .int 1 v] }).objs.size := by simpa using hb
    subst e
    exact I1.fpOk (Nat.le_refl _) (I1.hok.fresh (Nat.le_refl _))
def vg (ta : TA) : TI := fun σ H R => ta σ H fun vs H1 => ∃ j : Int, vs = [.int j] ∧ -(2 ^ 62) ≤ j ∧ j < 2 ^ 62 ∧ R (Itr 0 j.toNat) H1
theorem Ox {a : Expr} {ta : TA} {p pos : Pos} (hg : Gl X "range") (hm : X.mg "range" = none) (ha : PA X [a] ta) (hs : starEach [a] X.env = [(false, eval a X.env)] := by rfl) : PI X tg (.Call (.Name "range" p) [a] [] pos) (vg ta) := by
 intro pins s σ H R I h
 refine Call_ (gk I hg hm boot_range (PyProof.Rows.callWith_type1 (thn (ha pos pins s σ H _ I h) fun us s1 ⟨vs, H1, I1, r1, q1⟩ => ?_) hs rfl))
 obtain ⟨j, e, q1, q2, q⟩ := q1
 subst e
 cases r1 with
 | cons r rr =>
  cases rr
  obtain ⟨t, rfl⟩ := r
  exact call_range_1 (Vf I1 (by omega) (by omega) q1 q2 (by simpa using q))
def Vg (wi : TI) (g : TG) (tb : TS) : TS := fun D σ H => wi σ H fun J H1 => ∃ W : Nat → Nat → St → Hp → Prop, (∃ m, W 0 m σ H1) ∧ ∀ i m σ H, W i m σ H →
 (J.stop i H ∧ D.nx σ H) ∨ (J.go i H ∧ ∃ N : St → Hp → Prop, (∀ σ' H', N σ' H' → ∃ m', m' < m ∧ W (i + 1) m' σ' H') ∧ ∀ x H', J.yld i H x H' → g x σ H' fun σ2 H2 => tb { D with nx := N, ct := N, bk := D.nx } σ2 H2)
def Gk (fp : List Addr) (h : Heap) : List (Addr × Obj) := fp.filterMap fun b => (h.get? b).map fun o => (b, o)
theorem gm {fp : List Addr} {h : Heap} {b : Addr} {o : Obj} (hb : b ∈ fp) (e : h.get? b = some o) : (b, o) ∈ Gk fp h := List.mem_filterMap.mpr ⟨b, hb, by rw [e]; rfl⟩
theorem vh (hp : p ∈ Gk fp h) : p.1 ∈ fp ∧ h.get? p.1 = some p.2 := by
 obtain ⟨b, hb, e⟩ := List.mem_filterMap.mp hp
 cases q : h.get? b with
 | none => rw [q] at e; cases e
 | some o =>
  rw [q] at e
  have e' : (b, o) = p := Option.some.inj e
  subst e'
  exact ⟨hb, q⟩
theorem Inv.pinned {pins : List (Addr × Obj)} {σ : St} {H : Hp} {s : Shared} {fp : List Addr} (I : Inv X pins σ H s) (hf : ∀ b ∈ fp, Cy X pins H b) (ho : ∀ b ∈ fp, ∃ o, s.heap.get? b = some o ∧ ∀ v, o.data ≠ .cell v) : Inv X (pins ++ Gk fp s.heap) σ H s :=
 I.pins_of fun p hp => (List.mem_append.mp hp).elim (fun z => I.pin p (List.mem_append_right _ z)) fun z => by
  obtain ⟨hb, e⟩ := vh z
  obtain ⟨f0, f1, f2, _⟩ := hf p.1 hb
  obtain ⟨o, e', d⟩ := ho p.1 hb
  rw [e] at e'; cases e'
  exact ⟨e, f0, f1, f2, d⟩
theorem Inv.unpinned {pins pl : List (Addr × Obj)} {σ : St} {H : Hp} {s : Shared} (I : Inv X (pins ++ pl) σ H s) : Inv X pins σ H s := I.pins_of fun p hp => I.pin p (List.mem_append_right _ (List.mem_append_left _ hp))
theorem Lr {iter : Expr} {body : List Stmt} {wi : TI} {g : TG} {tb : TS} {pos : Pos} (hp : PassesOwn (model X.prog X.w) X.A X.env X.xe) (hc : X.calm = true) (hi : PI X tg iter wi) (hg : PG X tg g) (hb : PSs X body tb)
    (hs : ∀ x, foldedSetIterable iter X.env x = pure x := by intro _; rfl) : PS X (.For tg iter body [] pos) (Vg wi g tb) := by
  intro pins s σ H D I h
  refine wpAny_For (thn (hi pins s σ H _ I h) fun v s1 h1 => thn h1 fun itv s2 h2 => ?_) hs
  obtain ⟨it, fp, tn, J, H2, e, I2, T, st2, f2, W, ⟨m0, w0⟩, turn⟩ := h2
  subst e
  have stat : ∀ {H' : Hp}, (∀ b ∈ fp, H' b = none) → ∀ b ∈ fp, Cy X pins H' b := fun hn b hb => ⟨hn b hb, (f2 b hb).2⟩
  refine codeAny_forLoop_any (fun n s' => ∃ i σ' H', Inv X pins σ' H' s' ∧ tn i s'.heap ∧ (∀ b ∈ fp, H' b = none) ∧ W i n σ' H') ?_ m0 ⟨0, σ, H2, I2, st2, fun b hb => (f2 b hb).1, w0⟩
  rintro n s3 ⟨i, σ3, H3, I3, st3, fr3, w3⟩
  rcases turn i n σ3 H3 w3 with ⟨stop, qn⟩ | ⟨go, N, hN, step⟩
  · refine wpAny_passesOwn hp (thn (T.done X rfl rfl rfl hc i pins s3 σ3 H3 X.xe I3 (stat fr3) st3 stop) fun r s4 ⟨hr, I4⟩ => ?_)
    subst hr
    exact wpAny_execs_nil ⟨σ3, H3, I4, qn⟩
  · refine wpAny_passesOwn hp (thn (T.item X rfl rfl rfl hc i pins s3 σ3 H3 X.xe I3 (stat fr3) st3 go) fun r s4 ⟨u, hr, h4⟩ => ?_)
    subst hr
    refine wpAny_passesOwn hp (thn h4 fun _ s5 ⟨x, H5, I5, r5, y5, st5, fr5⟩ => ?_)
    have I5' := I5.pinned (stat fr5) (T.obj _ _ st5)
    refine wpAny_passesOwn hp (thn (hg _ s5 σ3 H5 x u _ I5' r5 (step x H5 y5)) fun _ s6 ⟨σ6, H6, I6, q6⟩ => ?_)
    refine wpAny_passesOwn hp (thn (hb _ s6 σ6 H6 _ I6 q6) fun f s7 q7 => ?_)
    have again : ∀ {σ7 : St} {H7 : Hp}, Inv X (pins ++ Gk fp s5.heap) σ7 H7 s7 → N σ7 H7 → ∃ m, m < n ∧ ∃ i σ' H', Inv X pins σ' H' s7 ∧ tn i s7.heap ∧ (∀ b ∈ fp, H' b = none) ∧ W i m σ' H' := fun {σ7 H7} I7 n7 => by
      obtain ⟨m', hm, w7⟩ := hN σ7 H7 n7
      refine ⟨m', hm, i + 1, σ7, H7, I7.unpinned, T.keep _ _ _ st5 fun b hb o e => (I7.pin (b, o) (List.mem_append_right _ (List.mem_append_right _ (gm hb e)))).1, fun b hb => ?_, w7⟩
      obtain ⟨o, e, d⟩ := T.obj _ _ st5 b hb
      exact (I7.pin (b, o) (List.mem_append_right _ (List.mem_append_right _ (gm hb e)))).2.1
    cases f with
    | next => obtain ⟨σ7, H7, I7, n7⟩ := q7; exact again I7 n7
    | cont => obtain ⟨σ7, H7, I7, n7⟩ := q7; exact again I7 n7
    | brk => obtain ⟨σ7, H7, I7, q7⟩ := q7; exact ⟨σ7, H7, I7.unpinned, q7⟩
    | ret v => obtain ⟨x7, σ7, H7, I7, r7, q7⟩ := q7; exact ⟨x7, σ7, H7, I7.unpinned, r7, q7⟩
end
end L2
namespace L2
open PySem PySem.Spec PyProof.Rows
abbrev R2 := V → V → Hp → VK → Prop
def OpR (X : Cx) (f : Value → Value → Sem Value) (r : R2) : Prop :=
 ∀ (pins : List (Addr × Obj)) (s : Shared) (σ : St) (H : Hp) (x y : V) (v u : Value) (Q : VK), Inv X pins σ H s → RelV x v → RelV y u → r x y H Q →
  wpAny (model X.prog X.w) X.A (f v u) (EP X pins σ Q) X.xe s
def cz (X : Cx) (f : Value) (r : List V → Hp → VK → Prop) : Prop :=
 ∀ (pins : List (Addr × Obj)) (s : Shared) (σ : St) (H : Hp) (xs : List V) (us : List Value) (Q : VK), Inv X pins σ H s → Vals xs us → r xs H Q →
  wpAny (model X.prog X.w) X.A (call f us) (EP X pins σ Q) X.xe s
def Vh (X : Cx) (r : V → Hp → (Bool → Hp → Prop) → Prop) : Prop :=
 ∀ (pins : List (Addr × Obj)) (s : Shared) (σ : St) (H : Hp) (x : V) (v : Value) (Q : Bool → Hp → Prop), Inv X pins σ H s → RelV x v → r x H Q →
  wpAny (model X.prog X.w) X.A (truthy v) (TP X pins σ Q) X.xe s
def tOp (r : R2) (ta tb : TE) : TE := fun σ H Q => ta σ H fun x H1 => tb σ H1 fun y H2 => r x y H2 Q
def rI (C : Int → Int → Prop) (g : Int → Int → V) : R2 := fun x y H Q => ∃ i j, x = .int i ∧ y = .int j ∧ C i j ∧ Q (g i j) H
def rI0 (g : Int → Int → V) : R2 := fun x y H Q => ∃ i j, x = .int i ∧ y = .int j ∧ Q (g i j) H
section
variable {X : Cx} {a b c : Expr} {ta tb tc : TE} {pos : Pos}
theorem lu (ha : PE X a ta) (hb : PE X b tb) {pins : List (Addr × Obj)} {s : Shared} {σ : St} {H : Hp} {R : V → V → Hp → Prop} (I : Inv X pins σ H s)
    (h : ta σ H fun x H1 => tb σ H1 fun y H2 => R x y H2) {Q : Value → Shared → Prop} {f : Value → Value → Sem Value}
    (hf : ∀ v u s2 x y H2, Inv X pins σ H2 s2 → RelV x v → RelV y u → R x y H2 → wpAny (model X.prog X.w) X.A (f v u) Q X.xe s2) :
    wpAny (model X.prog X.w) X.A (eval a X.env) (fun v s₁ => wpAny (model X.prog X.w) X.A (eval b X.env) (fun u s₂ => wpAny (model X.prog X.w) X.A (f v u) Q X.xe s₂) X.xe s₁) X.xe s := by
  refine thn (ha pins s σ H _ I h) fun v s1 ⟨x, H1, I1, r1, q1⟩ => ?_
  refine thn (hb pins s1 σ H1 _ I1 q1) fun u s2 ⟨y, H2, I2, r2, q2⟩ => ?_
  exact hf v u s2 x y H2 I2 r1 r2 q2
theorem Gm (ho : OpR X (binaryOp op) r) (ha : PE X a ta) (hb : PE X b tb) : PE X (.BinOp a op b pos) (tOp r ta tb) := by
 intro pins s σ H Q I h
 exact wpAny_BinOp (lu ha hb I h fun v u s2 x y H2 I2 rx ry q => ho pins s2 σ H2 x y v u Q I2 rx ry q)
theorem opI {f : Value → Value → Sem Value} {C : Int → Int → Prop} {g : Int → Int → Int}
    (rule : ∀ (i j : Int) (t u : Tok) (s : Shared) (Q : Value → Shared → Prop) (E : Value → Shared → Prop), C i j → Q (.int (g i j) s.toks) { s with toks := s.toks + 1 } → wpAny (model X.prog X.w) X.A (f (.int i t) (.int j u)) Q E s) :
    OpR X f (rI C fun i j => .int (g i j)) := by
  intro pins s σ H x y v u Q I rx ry h
  obtain ⟨i, j, rfl, rfl, hc, q⟩ := h
  obtain ⟨t, rfl⟩ := rx
  obtain ⟨t', rfl⟩ := ry
  exact rule i j t t' s _ _ hc ⟨.int (g i j), H, I.tok _, ⟨_, rfl⟩, q⟩
theorem oy {f : Value → Value → Sem Value} {g : Int → Int → Int}
    (rule : ∀ (i j : Int) (t u : Tok) (s : Shared) (Q : Value → Shared → Prop) (E : Value → Shared → Prop), Q (.int (g i j) s.toks) { s with toks := s.toks + 1 } → wpAny (model X.prog X.w) X.A (f (.int i t) (.int j u)) Q E s) :
    OpR X f (rI0 fun i j => .int (g i j)) := by
  intro pins s σ H x y v u Q I rx ry h
  obtain ⟨i, j, rfl, rfl, q⟩ := h
  obtain ⟨t, rfl⟩ := rx
  obtain ⟨t', rfl⟩ := ry
  exact rule i j t t' s _ _ ⟨.int (g i j), H, I.tok _, ⟨_, rfl⟩, q⟩
theorem jh {f : Value → Value → Sem Value} {g : Int → Int → Bool}
    (rule : ∀ (i j : Int) (t u : Tok) (s : Shared) (Q : Value → Shared → Prop) (E : Value → Shared → Prop), Q (.bool (g i j)) s → wpAny (model X.prog X.w) X.A (f (.int i t) (.int j u)) Q E s) :
    OpR X f (rI0 fun i j => .bl (g i j)) := by
  intro pins s σ H x y v u Q I rx ry h
  obtain ⟨i, j, rfl, rfl, q⟩ := h
  obtain ⟨t, rfl⟩ := rx
  obtain ⟨t', rfl⟩ := ry
  exact rule i j t t' s _ _ ⟨.bl (g i j), H, I, rfl, q⟩
def vi (i j : Int) : Prop := 0 ≤ j ∧ j ≤ 1000000 ∧ i.natAbs < 2 ^ 64
def Oy (i j : Int) : Prop := (-(2 ^ 64) < i ∧ i < 2 ^ 64) ∨ (-(2 ^ 64) < j ∧ j < 2 ^ 64)
theorem Oy.ok (h : Oy i j) : IntMulOk i j := by
 rcases h with ⟨h1, h2⟩ | ⟨h1, h2⟩
 · exact .of_left (intBits_le_64 h1 h2)
 · exact .of_right (intBits_le_64 h1 h2)
theorem Vi : OpR X (binaryOp .Add) (rI0 fun i j => .int (i + j)) := oy fun _ _ _ _ _ _ _ q => add_int q
theorem vj : OpR X (binaryOp .Sub) (rI0 fun i j => .int (i - j)) := oy fun _ _ _ _ _ _ _ q => sub_int q
theorem Vj : OpR X (binaryOp .Mod) (rI (fun _ j => j ≠ 0) fun i j => .int (i.fmod j)) := opI fun _ _ _ _ _ _ _ hc q => mod_int' hc q
theorem vk : OpR X (binaryOp .Pow) (rI vi fun i j => .int (i ^ j.toNat)) := opI fun _ _ _ _ _ _ _ hc q => pow_int_small hc.1 hc.2.1 hc.2.2 q
end
section
variable {X : Cx} {a b c : Expr} {ta tb tc : TE} {pos : Pos}
theorem Jh {σ : St} (I : Inv X pins σ H s) (q : Q (.bl k) H) (e : k = k') : EP X pins σ Q (.bool k') s := by
 subst e
 exact ⟨.bl k, H, I, rfl, q⟩
theorem oz : OpR X (compareOp .Lt) (rI0 fun i j => .bl (decide (i < j))) := jh fun _ _ _ _ _ _ _ q => lt_int q
theorem Vk : OpR X (compareOp .LtE) (rI0 fun i j => .bl (decide (i ≤ j))) := jh fun _ _ _ _ _ _ _ q => le_int q
theorem Oz : OpR X (compareOp .Gt) (rI0 fun i j => .bl (decide (j < i))) := jh fun _ _ _ _ _ _ _ q => gt_int q
theorem Vl : OpR X (compareOp .GtE) (rI0 fun i j => .bl (decide (j ≤ i))) := jh fun _ _ _ _ _ _ _ q => ge_int q
theorem vm : OpR X (compareOp .In) (fun x y H Q => ∃ i j, x = .str i ∧ y = .str j ∧ Q (.bl (!(Builtin.Str.occurrences j i 0 j.length 1).isEmpty)) H) := by
 intro pins s σ H x y v u Q I rx ry h
 obtain ⟨i, j, rfl, rfl, q⟩ := h
 obtain ⟨t, rfl⟩ := rx
 obtain ⟨t', rfl⟩ := ry
 exact in_str (Jh I q rfl)
theorem Vm : OpR X (compareOp .Is) (fun x y H Q => y = .non ∧ Q (.bl (decide (x = .non))) H) := by
 intro pins s σ H x y v u Q I rx ry h
 obtain ⟨rfl, q⟩ := h
 cases ry
 refine is_none_gen (Jh I q ?_)
 cases x <;> first
  | (cases rx; rfl)
  | (obtain ⟨t, rfl⟩ := rx; rfl)
theorem vn : OpR X (compareOp .IsNot) (fun x y H Q => y = .non ∧ Q (.bl (!decide (x = .non))) H) := by
 intro pins s σ H x y v u Q I rx ry h
 obtain ⟨rfl, q⟩ := h
 cases ry
 refine isnot_none_gen (Jh I q ?_)
 cases x <;> first
  | (cases rx; rfl)
  | (obtain ⟨t, rfl⟩ := rx; rfl)
theorem Vn : OpR X (compareOp .NotIn) (fun x y H Q => ∃ i j, x = .str i ∧ y = .str j ∧ Q (.bl (!(!(Builtin.Str.occurrences j i 0 j.length 1).isEmpty))) H) := by
 intro pins s σ H x y v u Q I rx ry h
 obtain ⟨i, j, rfl, rfl, q⟩ := h
 obtain ⟨t, rfl⟩ := rx
 obtain ⟨t', rfl⟩ := ry
 exact notIn_str (Jh I q rfl)
theorem OpR.or (h : OpR X f r) (h' : OpR X f r') : OpR X f (fun x y H Q => r x y H Q ∨ r' x y H Q) := by
 intro pins s σ H x y v u Q I rx ry q
 rcases q with q | q
 · exact h pins s σ H x y v u Q I rx ry q
 · exact h' pins s σ H x y v u Q I rx ry q
theorem Hr (b : Expr) (h : op ≠ .In := by decide) (h2 : op ≠ .NotIn := by decide) : behindInMarks op b = false := by
 have e1 : (op == CmpOp.In) = false := by cases op <;> first | rfl | exact absurd rfl h
 have e2 : (op == CmpOp.NotIn) = false := by cases op <;> first | rfl | exact absurd rfl h2
 cases b <;> simp [behindInMarks, e1, e2]
theorem Pa (ho : OpR X (compareOp op) r) (ha : PE X a ta) (hb : PE X b tb) (hm : behindInMarks op b = false) : PE X (.Compare a [op] [b] pos) (tOp r ta tb) := by
 intro pins s σ H Q I h
 exact wpAny_Compare1 (lu ha hb I h fun v u s2 x y H2 I2 rx ry q => ho pins s2 σ H2 x y v u Q I2 rx ry q) hm
def pb (t : TE) : TT := fun σ H Q => t σ H fun x H' => ∃ k, x = .bl k ∧ Q k H'
theorem Gn {op : CmpOp} {r : R2} (ho : OpR X (compareOp op) r) (ha : PE X a ta) (hb : PE X b tb) (hm : behindInMarks op b = false) : PT X (.Compare a [op] [b] pos) (pb (tOp r ta tb)) := by
 intro pins s σ H Q I h
 refine wpAny_isTrue_Compare1 (thn (ha pins s σ H _ I h) fun v s1 ⟨x, H1, I1, r1, q1⟩ => thn (hb pins s1 σ H1 _ I1 q1) fun u s2 ⟨y, H2, I2, r2, q2⟩ =>
  thn (ho pins s2 σ H2 x y v u _ I2 r1 r2 q2) fun c s3 ⟨z, H3, I3, r3, k, e, q3⟩ => ?_) hm
 subst e
 cases r3
 exact wpAny_truthy_bool ⟨H3, I3, q3⟩
def Lu (r r' : R2) (ta tb tc : TE) : TE := fun σ H Q => ta σ H fun x H1 => tb σ H1 fun y H2 => r x y H2 fun z H3 => ∃ k, z = .bl k ∧
 (if k = true then tc σ H3 fun w' H4 => r' y w' H4 Q else Q (.bl false) H3)
theorem vo {op op' : CmpOp} {r r' : R2} (ho : OpR X (compareOp op) r) (ho' : OpR X (compareOp op') r') (ha : PE X a ta) (hb : PE X b tb) (hc : PE X c tc)
    (hm : lastMarks [op, op'] [b, c] = false := by with_unfolding_all rfl) : PE X (.Compare a [op, op'] [b, c] pos) (Lu r r' ta tb tc) := by
  intro pins s σ H Q I h
  refine Compare_chain (thn (ha pins s σ H _ I h) fun v s1 ⟨x, H1, I1, r1, q1⟩ => chain_link (thn (hb pins s1 σ H1 _ I1 q1) fun u s2 ⟨y, H2, I2, r2, q2⟩ =>
    thn (ho pins s2 σ H2 x y v u _ I2 r1 r2 q2) fun d s3 ⟨z, H3, I3, r3, k, e, q3⟩ => ?_)) hm
  subst e
  cases r3
  refine wpAny_truthy_bool ?_
  cases k with
  | false => exact ite_ff ⟨.bl false, H3, I3, rfl, q3⟩
  | true => exact ite_tt (chain_last (thn (hc pins s3 σ H3 _ I3 q3) fun w' s4 ⟨z', H4, I4, r4, q4⟩ => ho' pins s4 σ H4 y z' u w' Q I4 r2 r4 q4))
theorem Vo {op op' : CmpOp} {r r' : R2} (ho : OpR X (compareOp op) r) (ho' : OpR X (compareOp op') r') (ha : PE X a ta) (hb : PE X b tb) (hc : PE X c tc)
    (hm : lastMarks [op, op'] [b, c] = false := by with_unfolding_all rfl) : PT X (.Compare a [op, op'] [b, c] pos) (pb (Lu r r' ta tb tc)) := by
  intro pins s σ H Q I h
  refine isTrue_chain (thn (ha pins s σ H _ I h) fun v s1 ⟨x, H1, I1, r1, q1⟩ => test_link (thn (hb pins s1 σ H1 _ I1 q1) fun u s2 ⟨y, H2, I2, r2, q2⟩ =>
    thn (ho pins s2 σ H2 x y v u _ I2 r1 r2 q2) fun d s3 ⟨z, H3, I3, r3, k, e, q3⟩ => ?_)) hm
  subst e
  cases r3
  refine wpAny_truthy_bool ?_
  cases k with
  | false =>
    obtain ⟨k', e', q'⟩ := q3
    cases e'
    exact ite_ff ⟨H3, I3, q'⟩
  | true =>
    refine ite_tt (test_last (thn (hc pins s3 σ H3 _ I3 q3) fun w' s4 ⟨z', H4, I4, r4, q4⟩ => thn (ho' pins s4 σ H4 y z' u w' _ I4 r2 r4 q4) fun d' s5 ⟨z2, H5, I5, r5, k2, e2, q5⟩ => ?_))
    subst e2
    cases r5
    exact wpAny_truthy_bool ⟨H5, I5, q5⟩
def Lw (K : PySem.W.Frag) (x : V) (H : Hp) (k : Bool) : Prop :=
 match x with
 | .non => k = false
 | .bl b => k = b
 | .int i => k = (i != 0)
 | .str y => y.length ≤ sizeLine ∧ k = ((y.length : Int) != 0)
 | .byt y => y.size ≤ sizeLine ∧ k = ((y.size : Int) != 0)
 | .ref p => (∃ xs, SqL K H p xs ∧ k = !xs.isEmpty) ∨ (∃ xs, SqT K H p xs ∧ k = !xs.isEmpty) ∨ ∃ kvs, H p = some (.dK kvs) ∧ k = !kvs.isEmpty
 | _ => False
theorem vp {κ : Type} {kvs : List (κ × V)} {vs : List (κ × Value)} (r : KV kvs vs) : (!vs.isEmpty) = !kvs.isEmpty := by
 cases r <;> rfl
theorem Pb {xs : List V} {its : List Value} (r : Vals xs its) : (!its.toArray.isEmpty) = !xs.isEmpty := by
 cases r <;> simp
theorem fy : (sizeLine : Nat) < 2 ^ 63 := by rw [sizeLine_eq]; decide
theorem Vp : Vh X (fun x H Q => ∃ k, Lw X.K x H k ∧ Q k H) := by
 intro pins s σ H x v Q I rx h
 obtain ⟨k, e, q⟩ := h
 have hl := fy
 have hs : sizeLine = 16777216 := sizeLine_eq
 cases x with
 | non =>
  cases rx
  have e' : k = false := e
  subst e'
  exact truthy_none ⟨H, I, q⟩
 | bl b =>
  cases rx
  have e' : k = b := e
  subst e'
  exact wpAny_truthy_bool ⟨H, I, q⟩
 | int i =>
  obtain ⟨t, rfl⟩ := rx
  have e' : k = (i != 0) := e
  subst e'
  exact PySem.P.truthy_int ⟨H, I, q⟩
 | str y =>
  obtain ⟨t, rfl⟩ := rx
  obtain ⟨hy, e'⟩ : y.length ≤ sizeLine ∧ k = ((y.length : Int) != 0) := e
  subst e'
  exact PySem.P.truthy_str (by omega) ⟨H, I.tok _, q⟩
 | byt y =>
  obtain ⟨t, rfl⟩ := rx
  obtain ⟨hy, e'⟩ : y.size ≤ sizeLine ∧ k = ((y.size : Int) != 0) := e
  subst e'
  exact PySem.W.truthy_bytes (by omega) ⟨H, I.tok _, q⟩
 | ref p =>
  cases rx
  have e' : (∃ xs, SqL X.K H p xs ∧ k = !xs.isEmpty) ∨ (∃ xs, SqT X.K H p xs ∧ k = !xs.isEmpty) ∨ ∃ kvs, H p = some (.dK kvs) ∧ k = !kvs.isEmpty := e
  rcases e' with ⟨xs, hx, e'⟩ | ⟨xs, hx, e'⟩ | ⟨kvs, hx, e'⟩
  · subst e'
    obtain ⟨its, r, pl, hz⟩ := I.list hx
    have hlen := r.length
    exact wpAny_truthy_list pl.isList (by simp only [List.size_toArray]; omega) ⟨H, I.tok _, by rw [Pb r]; exact q⟩
  · subst e'
    obtain ⟨its, r, pl, hz⟩ := I.tuple hx
    have hlen := r.length
    exact truthy_tuple pl (by simp only [List.size_toArray]; omega) ⟨H, I.tok _, by rw [Pb r]; exact q⟩
  · subst e'
    obtain ⟨hz, hS, vs, r, m⟩ : kvs.length ≤ sizeLine ∧ (p == sysModules) = false ∧ ∃ vs, KV kvs vs ∧ s.heap.DictOf (Ck X.prog X.w) p vs := I.hok p _ hx
    have hlen : kvs.length = vs.length := Paired.length r
    exact wpAny_truthy_dict hS m (by omega) ⟨H, I.tok _, by rw [vp r]; exact q⟩
 | _ => exact (show False from e).elim
theorem vq (ha : PE X a ta) (he : ∀ whole, isTrue a X.env whole = (do let v ← whole; standAt a.pos; holding [v] (truthy v))) :
    PT X a (fun σ H Q => ta σ H fun x H' => ∃ k, Lw X.K x H' k ∧ Q k H') := by
  intro pins s σ H Q I h
  exact isTrue_plain (thn (ha pins s σ H _ I h) fun v s1 ⟨x, H1, I1, r1, q1⟩ => Vp pins s1 σ H1 x v Q I1 r1 q1) (he _)
theorem Vq : OpR X (binaryOp .Add) (fun x y H Q => ∃ i j, x = .str i ∧ y = .str j ∧ i.length + j.length ≤ sizeLine ∧ Q (.str (i ++ j)) H) := by
 intro pins s σ H x y v u Q I rx ry h
 obtain ⟨i, j, rfl, rfl, hz, q⟩ := h
 obtain ⟨t, rfl⟩ := rx
 obtain ⟨t', rfl⟩ := ry
 exact add_str (fun t' tk => ⟨.str (i ++ j), H, I.tok _, ⟨_, rfl⟩, q⟩) hz
theorem vals1 (r : Vals [x] us) : ∃ u, us = [u] ∧ RelV x u := by
 cases r with
 | cons r1 r2 => cases r2; exact ⟨_, rfl, r1⟩
theorem vals2 (r : Vals [x, y] us) : ∃ u w', us = [u, w'] ∧ RelV x u ∧ RelV y w' := by
 cases r with
 | cons r1 r2 =>
  cases r2 with
  | cons r3 r4 => cases r4; exact ⟨_, _, rfl, r1, r3⟩
theorem Vr : cz X (.type "int") (fun xs H Q => (∃ i, xs = [.int i] ∧ Q (.int i) H) ∨ ∃ k, xs = [.bl k] ∧ Q (.int (if k then 1 else 0)) H) := by
 intro pins s σ H xs us Q I r h
 rcases h with ⟨i, rfl, q⟩ | ⟨k, rfl, q⟩
 · obtain ⟨u, rfl, t, rfl⟩ := vals1 r
   exact call_int_int ⟨.int i, H, I, ⟨_, rfl⟩, q⟩
 · obtain ⟨u, rfl, r1⟩ := vals1 r
   cases r1
   exact call_int_bool ⟨.int (if k then 1 else 0), H, I.tok _, ⟨_, rfl⟩, q⟩
end
end L2
namespace L2
open PySem PySem.Spec PyProof.Rows
structure ObjM (h : Heap) (x dx C : Addr) (mA : Str → Option Value) : Prop where
 obj : h.get? x = some (PySem.W.instObj C dx)
 ns : h.Ns1 dx mA
 ne : dx ≠ x
theorem Vs {h : Heap} {dx : Addr} {mA : Str → Option Value} (n : h.Ns1 dx mA) : ∃ od, h.get? dx = some od ∧ ∀ name, PySem.W.lookIn name od = some (mA name) := by
 obtain ⟨o, es, ep, ho, hd, hk, _, hm⟩ := n
 refine ⟨o, ho, fun name => ?_⟩
 have e := hm name
 unfold nsFind findBy at e
 rw [← Array.find?_toList] at e
 unfold PySem.W.lookIn
 rw [hd]
 dsimp only
 split
 · rename_i y q
   rw [q] at e
   exact congrArg some e
 · rename_i q
   rw [q] at e
   have a : es.toList.any (·.refKey) = false := by
    rw [List.any_eq_false]
    intro y hy
    obtain ⟨z, t, hkey⟩ := hk y (Array.mem_toList_iff.mp hy)
    simp [DictEntry.refKey, hkey]
   have a' : ¬ es.toList.any (·.refKey) = true := by rw [a]; exact Bool.false_ne_true
   rw [if_neg a']
   exact congrArg some e
theorem ObjM.look (I : ObjM h x dx C mA) : ∃ od, PySem.W.InstAt h x (PySem.W.instObj C dx) C (some od) ∧ ∀ name, PySem.W.lookIn name od = some (mA name) :=
 let ⟨od, ho, hl⟩ := Vs I.ns
 ⟨od, ⟨I.obj, rfl, rfl, ho⟩, hl⟩
section
variable {prog : Program} {w : World} {A : Around} {E : Value → Shared → Prop} {s : Shared} {K : PySem.W.Frag} {x dx C f : Addr} {mA : Str → Option Value} {name : Str} {v : Value}
theorem get_map (X : K.In s.heap) (I : ObjM s.heap x dx C mA) (hg : PySem.W.plainGet K C name = true) (hh : PySem.W.hasDictIn K C = true)
    (ha : PySem.W.findIn K (.ref C) name = some none) (hv : mA name = some v) (hv' : PySem.W.handedIn v = true) (h : Q v { s with toks := s.toks + 1 }) :
    wpAny (model prog w) A (getAttr (.ref x) name expr) Q E s := by
  obtain ⟨od, J, hl⟩ := I.look
  exact PySem.W.get_value X J (PySem.W.plainGet_of hg).1 (PySem.W.findObj_own hh ha rfl (by rw [hl, hv])) hv' h
theorem vt (X : K.In s.heap) (I : ObjM s.heap x dx C mA)
    (hs : PySem.W.findIn K (.ref C) "__setattr__" = some (some (.builtin "object.__setattr__"))) (hp : PySem.W.plainOver K C = true) (ht : PySem.W.takerIn K C name = some none) (hh : PySem.W.hasDictIn K C = true)
    (hw : PySem.Within mA ns) (hsz : ns.length ≤ sizeLine)
    (h : ∀ h', ObjM h' x dx C (fun y => if y = name then some v else mA y) → Heap.SameBut dx s.heap h' → Q () { s with heap := h', toks := s.toks + 2 }) :
    wpAny (model prog w) A (setAttr (.ref x) name v) Q E s := by
  obtain ⟨od, J, hl⟩ := I.look
  refine PySem.W.set_plain X J hs (PySem.W.osa_open (s := { s with toks := s.toks + 1 }) (r := none) X J hp ht fun b => ?_)
  obtain ⟨cd, hc, hd'⟩ := PySem.W.any_some hh
  have hx : s.heap.get? x = some ⟨.ref C, some dx, .plain, #[]⟩ := I.obj
  refine wpAny_bind (wpAny_pure (wpAny_bind (wpAny_bind (wpAny_loadPart hx (wpAny_bind (PySem.W.Looks.here (s := { s with toks := s.toks + 1 }) (PySem.W.looks_clsIn X hc) ?_))))))
  rw [hd']
  refine wpAny_pure (a := some dx) (wpAny_bind (wpAny_pure (wpAny_bind ?_)))
  refine wpAny_nsSet1 (s := { s with toks := s.toks + 1 }) I.ns fun h' hn2 hs2 => ?_
  obtain ⟨oD, esD, epD, hoD, hdD, hcD⟩ := hn2.count (PySem.Within.cons name v hw)
  refine wpAny_bind (wpAny_lookBehind hoD (by rw [hdD]; exact pastItsLine_dict (Nat.le_trans hcD (by rw [List.length_cons]; omega))) ?_)
  exact wpAny_pure (h _ ⟨(hs2.2 _ (Ne.symm I.ne)).trans I.obj, hn2, I.ne⟩ hs2)
theorem Vt (X : K.In s.heap) (hm : PySem.W.makesIn K C = true)
    (hi : PySem.W.findIn K (.ref C) "__init__" = some (some (.ref f))) (hf : PySem.W.typeIn K (.ref f) = some (.type "function"))
    (h : codeAny (model prog w) (A.under (.builtin "type.__call__" ⟨.ref C :: vs, kw⟩)) (.call (.ref f) ⟨.ref (s.heap.objs.size + 1) :: vs, kw⟩) (PySem.W.InitBack (s.heap.objs.size + 1) R)
      { s with heap := (s.heap.push PySem.W.emptyDict).push (PySem.W.instObj C s.heap.objs.size) }) :
    codeAny (model prog w) A (.call (.ref C) ⟨vs, kw⟩) R s := by
  obtain ⟨hh, g, d, t, os⟩ := s
  exact PySem.W.make_core (PySem.W.makes_of X hm) (PySem.W.looks_findIn X hi) (fun self => PySem.W.bind_fn X self hf) (.inl rfl) h
end
def bu (f : Str) (v : V) : List (Str × V) → List (Str × V)
 | [] => [(f, v)]
 | (g, x) :: r => if g = f then (g, v) :: r else (g, x) :: bu f v r
theorem lx (f g : Str) (v : V) : ∀ fs : List (Str × V), (bu f v fs).lookup g = if g = f then some v else fs.lookup g
 | [] => by
  show List.lookup g [(f, v)] = _
  by_cases h : g = f
  · have hb : (g == f) = true := beq_iff_eq.mpr h
    simp only [List.lookup, hb, if_pos h]
  · have hb : (g == f) = false := beq_eq_false_iff_ne.mpr h
    simp only [List.lookup, hb, if_neg h]
 | (k, x) :: r => by
  have ih := lx f g v r
  rw [show bu f v ((k, x) :: r) = (if k = f then (k, v) :: r else (k, x) :: bu f v r) from rfl]
  by_cases hk : k = f
  · rw [if_pos hk]
    by_cases h : g = k
    · have hb : (g == k) = true := beq_iff_eq.mpr h
      simp only [List.lookup, hb, if_pos (h.trans hk)]
    · have hb : (g == k) = false := beq_eq_false_iff_ne.mpr h
      simp only [List.lookup, hb, if_neg (fun e : g = f => h (e.trans hk.symm))]
  · rw [if_neg hk]
    by_cases h : g = k
    · have hb : (g == k) = true := beq_iff_eq.mpr h
      simp only [List.lookup, hb, if_neg (fun e : g = f => hk (h.symm.trans e))]
    · have hb : (g == k) = false := beq_eq_false_iff_ne.mpr h
      simp only [List.lookup, hb]
      exact ih
theorem ly (f : Str) (v : V) : ∀ fs : List (Str × V), f ∈ (bu f v fs).map (·.1) ∧ ∀ g, g ∈ fs.map (·.1) → g ∈ (bu f v fs).map (·.1)
 | [] => ⟨by simp [bu], fun g h => by simp at h⟩
 | (k, x) :: r => by
  obtain ⟨i1, i2⟩ := ly f v r
  rw [show bu f v ((k, x) :: r) = (if k = f then (k, v) :: r else (k, x) :: bu f v r) from rfl]
  by_cases hk : k = f
  · rw [if_pos hk]
    subst hk
    exact ⟨by simp, fun g h => by simpa using h⟩
  · rw [if_neg hk]
    refine ⟨?_, fun g h => ?_⟩
    · rw [List.map_cons]
      exact List.mem_cons_of_mem _ i1
    · rw [List.map_cons] at h ⊢
      rcases List.mem_cons.mp h with e | e
      · exact List.mem_cons.mpr (.inl e)
      · exact List.mem_cons_of_mem _ (i2 g e)
theorem Pc (f : Str) (v : V) : ∀ fs : List (Str × V), (bu f v fs).length ≤ fs.length + 1
 | [] => by simp [bu]
 | (k, x) :: r => by
  have ih := Pc f v r
  rw [show bu f v ((k, x) :: r) = (if k = f then (k, v) :: r else (k, x) :: bu f v r) from rfl]
  by_cases hk : k = f
  · rw [if_pos hk, List.length_cons, List.length_cons]; omega
  · rw [if_neg hk, List.length_cons, List.length_cons]; omega
theorem Df.some_of (r : Df (some v) o) : ∃ u, o = some u ∧ RelV v u := by
 cases o with
 | none => exact (show False from r).elim
 | some u => exact ⟨u, rfl, r⟩
theorem Vu (r : RelV v u) : PySem.W.handedIn u = true := by
 cases v with
 | non => cases (show u = Value.none from r); rfl
 | bl b => cases (show u = Value.bool b from r); rfl
 | int i => obtain ⟨t, e⟩ := (show ∃ t, u = Value.int i t from r); cases e; rfl
 | str x => obtain ⟨t, e⟩ := (show ∃ t, u = Value.str x t from r); cases e; rfl
 | byt b => obtain ⟨t, e⟩ := (show ∃ t, u = Value.bytes b t from r); cases e; rfl
 | flt b => obtain ⟨t, e⟩ := (show ∃ t, u = Value.float b t from r); cases e; rfl
 | ref a => cases (show u = Value.ref a from r); rfl
 | ty n => cases (show u = Value.type n from r); rfl
section
variable {P : Program} {w : World} {H H' : Hp} {h h' : Heap} {a C dx : Addr} {fs fs' : List (Str × V)}
theorem pd (hok : HOk P w H h) (e : H a = some (.ins C dx fs)) : ∃ mA, ObjM h a dx C mA ∧ (∀ f, Df (fs.lookup f) (mA f)) ∧ PySem.Within mA (fs.map (·.1)) ∧ fs.length ≤ 1000 ∧ H dx = some (.own a) := by
 obtain ⟨d, z, ne, ob, mA, n, r, q⟩ := (show bg P w H h a (.ins C dx fs) from hok a _ e)
 exact ⟨mA, ⟨ob, n, ne⟩, r, q, z, d⟩
end
structure Cls (K : PySem.W.Frag) (C : Addr) : Prop where
 pg : PySem.W.plainGet K C Str.empty = true
 hd : PySem.W.hasDictIn K C = true
 po : PySem.W.plainOver K C = true
 sa : PySem.W.findIn K (.ref C) "__setattr__" = some (some (.builtin "object.__setattr__"))
theorem Cls.get {K : PySem.W.Frag} {C : Addr} (c : Cls K C) (f : Str) : PySem.W.plainGet K C f = true := c.pg
def cn (K : PySem.W.Frag) (C : Addr) (f : Str) : Prop := PySem.W.findIn K (.ref C) f = some none
theorem cn.taker {K : PySem.W.Frag} {C : Addr} {f : Str} (n : cn K C f) : PySem.W.takerIn K C f = some none := by
 unfold PySem.W.takerIn
 rw [show PySem.W.findIn K (.ref C) f = some none from n]
 rfl
structure Con (K : PySem.W.Frag) (C : Addr) (f : Str) (v : V) (u : Value) : Prop where
 at_ : PySem.W.findIn K (.ref C) f = some (some u)
 rel : RelV v u
 get : PySem.W.specialIn K u "__get__" = some none
 cp : PySem.W.copiedNames.contains f = false
section
variable {X : Cx} {pins : List (Addr × Obj)} {σ : St} {H : Hp} {s : Shared} {a C dx : Addr} {fs : List (Str × V)} {f : Str} {v : V} {A : Around} {E : Value → Shared → Prop}
theorem Vv (I : Inv X pins σ H s) (e : H a = some (.ins C dx fs)) (c : Cls X.K C) (n : cn X.K C f) (l : fs.lookup f = some v)
    (h : ∀ u s', Inv X pins σ H s' → RelV v u → Q u s') : wpAny (model X.prog X.w) A (getAttr (.ref a) f b) Q E s := by
  obtain ⟨mA, O, r, _, _, _⟩ := pd I.hok e
  obtain ⟨u, hu, ru⟩ := Df.some_of (v := v) (o := mA f) (by rw [← l]; exact r f)
  exact get_map I.kIn O (c.get f) c.hd n hu (Vu ru) (h u _ (I.tok _) ru)
theorem vw (I : Inv X pins σ H s) (e : H a = some (.ins C dx fs)) (c : Cls X.K C) (n : cn X.K C f) (hl : fs.length < 1000) (ry : RelV y u)
    (h : ∀ s', Inv X pins σ (upd H a (.ins C dx (bu f y fs))) s' → Q () s') : wpAny (model X.prog X.w) A (setAttr (.ref a) f u) Q E s := by
  obtain ⟨mA, O, r, wi, _, ho⟩ := pd I.hok e
  have hz : (fs.map (·.1)).length ≤ sizeLine := by rw [List.length_map, sizeLine_eq]; omega
  refine vt I.kIn O c.sa c.po n.taker c.hd wi hz fun h' O' sb => h _ ?_
  have hd : ∃ o, h'.get? dx = some o := let ⟨o, _, _, e', _⟩ := O'.ns; ⟨o, e'⟩
  refine I.write (x := a) (e := dx) (by rw [e]; exact True.intro) (.inr ho) (fun b q hb z => (sb.2 b hb).trans z) hd ?_
  refine ⟨by rw [Ax O.ne]; exact ho, ?_, O.ne, O'.obj, _, O'.ns, fun g => ?_, fun g hg => ?_⟩
  · have := Pc f y fs; omega
  · show Df ((bu f y fs).lookup g) (if g = f then some u else mA g)
    rw [lx]
    by_cases q : g = f
    · rw [if_pos q, if_pos q]; exact ry
    · rw [if_neg q, if_neg q]; exact r g
  · by_cases q : g = f
    · rw [q]; exact (ly f y fs).1
    · refine (ly f y fs).2 g (wi g fun z => hg ?_)
      show (if g = f then some u else mA g) = none
      rw [if_neg q]; exact z
theorem Inv.made (I : Inv X pins σ H s) : Inv X pins σ (upd (upd H s.heap.objs.size (.own (s.heap.objs.size + 1))) (s.heap.objs.size + 1) (.ins C s.heap.objs.size []))
    { s with heap := (s.heap.push PySem.W.emptyDict).push (PySem.W.instObj C s.heap.objs.size) } := by
  have e1 : (s.heap.push PySem.W.emptyDict).get? s.heap.objs.size = some PySem.W.emptyDict := Heap.get?_push_size s.heap rfl
  have e2 : ((s.heap.push PySem.W.emptyDict).push (PySem.W.instObj C s.heap.objs.size)).get? (s.heap.objs.size + 1) = some (PySem.W.instObj C s.heap.objs.size) := by
    have := Heap.get?_push_size (s.heap.push PySem.W.emptyDict) (o := PySem.W.instObj C s.heap.objs.size) rfl
    rwa [Heap.size_push] at this
  have e3 : (s.heap.push PySem.W.emptyDict).Ns s.heap.objs.size (fun _ => none) := ⟨PySem.W.emptyDict, #[], _, e1, rfl, (fun e he => absurd he (by simp)), fun _ => rfl⟩
  have I1 := I.laid (a := s.heap.objs.size) (o := .own (s.heap.objs.size + 1)) (h' := s.heap.push PySem.W.emptyDict) (t' := s.toks) (fun b u q => Heap.get?_push_of_some _ q) (Nat.le_refl _) ⟨_, e1⟩
  refine I1.laid (a := s.heap.objs.size + 1) (o := .ins C s.heap.objs.size []) (t' := s.toks) (fun b u q => Heap.get?_push_of_some _ q) (Nat.le_of_eq (Heap.size_push _ _)) ?_
  have ne : s.heap.objs.size ≠ s.heap.objs.size + 1 := Nat.ne_of_lt (Nat.lt_succ_self _)
  refine ⟨by rw [Ax ne, Cb], Nat.zero_le _, ne, e2, fun _ => none, (Heap.Ns1.of_empty e3).at fun o q => Heap.get?_push_of_some _ q, fun _ => True.intro, fun y hy => absurd rfl hy⟩
theorem Vw (hb : attributeBase e f env (eval e env) = eval e env)
    (h : wpAny (model prog w) A (eval e env) (fun o s₁ => wpAny (model prog w) A (getAttr o f true) Q E s₁) E s) : wpAny (model prog w) A (eval (.Attribute e f pos) env) Q E s :=
  Attribute_any_ h (by rw [arm_eval_Attribute, hb])
end
def Vx (K : PySem.W.Frag) (ta : TE) (f : Str) : TE := fun σ H Q => ta σ H fun x H1 => ∃ a C dx fs v, x = .ref a ∧ H1 a = some (.ins C dx fs) ∧ Cls K C ∧ cn K C f ∧ fs.lookup f = some v ∧ Q v H1
def vy (K : PySem.W.Frag) (ta tv : TE) (f : Str) : TS := fun D σ H => tv σ H fun y H1 => ta σ H1 fun x H2 => ∃ a C dx fs, x = .ref a ∧ H2 a = some (.ins C dx fs) ∧ Cls K C ∧ cn K C f ∧ fs.length < 1000 ∧
 D.nx σ (upd H2 a (.ins C dx (bu f y fs)))
section
variable {X : Cx} {o e value : Expr} {f : Str} {pos pos' tpos : Pos} {ta tv : TE}
theorem Vy (he : PE X e ta) (hb : attributeBase e f X.env (eval e X.env) = eval e X.env) : PE X (.Attribute e f pos) (Vx X.K ta f) := by
 intro pins s σ H Q I h
 refine Vw hb (thn (he pins s σ H _ I h) fun u s1 ⟨x, H1, I1, rx, a, C, dx, fs, v, ex, ea, c, n, l, q⟩ => ?_)
 subst ex
 obtain rfl : u = Value.ref a := rx
 exact Vv I1 ea c n l fun u' s2 I2 ru => ⟨v, H1, I2, ru, q⟩
theorem vz (ha : PE X o ta) (hv : PE X value tv) (hs : swapsWith value (some (.Attribute o f pos')) pos.line X.env = pure false) : PS X (.Assign [.Attribute o f pos'] value pos) (vy X.K ta tv f) := by
 intro pins s σ H D I h
 refine plainObj_wpAny_Assign_Attribute (thn (hv pins s σ H _ I h) fun u s1 ⟨y, H1, I1, ry, q⟩ => thn (ha pins s1 σ H1 _ I1 q) fun ov s2 ⟨x, H2, I2, rx, a, C, dx, fs, ex, ea, c, n, l, q2⟩ => ?_) hs
 subst ex
 obtain rfl : ov = Value.ref a := rx
 exact vw I2 ea c n l ry fun s3 I3 => ⟨σ, _, I3, q2⟩
end
section
variable {X : Cx} {pins : List (Addr × Obj)} {σ : St} {H : Hp} {s : Shared} {A : Around} {E : Value → Shared → Prop} {Q : Value → Shared → Prop} {c : Value} {b : Bool}
end
end L2
namespace L2
open PySem PySem.Spec PyProof.Rows
structure Room (k : Nat) (A : Around) : Prop where
 hd : A.handled = none
 dp : A.depth + 3 * k + 5 < recursionLimit
 un : A.units + 16 * k + 200 < cLine
theorem Room.mono (r : Room k A) (h : j ≤ k) : Room j A := ⟨r.hd, by have := r.dp; omega, by have := r.un; omega⟩
theorem Room.deeper (r : Room (k + 1) A) (env : Env) : Room k (A.deeper env) :=
 ⟨r.hd, by have := r.dp; show A.depth + 1 + 3 * k + 5 < _; omega, by have := r.un; show A.units + 3 + 16 * k + 200 < _; omega⟩
theorem Vz {A : Around} {C : Addr} {us : List Value} {kw : List (Str × Value)} : (A.under (.builtin "type.__call__" ⟨.ref C :: us, kw⟩)).depth = A.depth + 1 := by
 first | rfl | simp [Around.under, Code.weight, Code.isCreation, Code.isGuard, Code.isCaller, Code.frames, Code.isFrame, guardIds]
theorem wa {A : Around} {C : Addr} {us : List Value} {kw : List (Str × Value)} : (A.under (.builtin "type.__call__" ⟨.ref C :: us, kw⟩)).units = A.units + 1 := by
 first | rfl | simp [Around.under, Code.cUnits, Code.frames, Code.isFrame]
theorem Room.make (r : Room (k + 1) A) (C : Addr) (us : List Value) (kw : List (Str × Value)) : Room k (A.under (.builtin "type.__call__" ⟨.ref C :: us, kw⟩)) :=
 ⟨r.hd, by have := r.dp; rw [Vz]; omega, by have := r.un; rw [wa]; omega⟩
theorem Room.depth (r : Room k A) : A.depth < recursionLimit := by have := r.dp; omega
theorem Room.units (r : Room k A) : A.units + 64 < cLine := by have := r.un; omega
def Ly : TA := fun _ H Q => Q [] H
def ji (ta : TE) (tr : TA) : TA := fun σ H Q => ta σ H fun x H1 => tr σ H1 fun xs H2 => Q (x :: xs) H2
section
variable {X : Cx} {e : Expr} {es : List Expr} {te : TE} {t : TA} {pos : Pos}
theorem Hs : PA X [] Ly := fun _ _ _ _ H Q I h => Calls.spliced_nil ⟨[], H, I, .nil, h⟩
theorem ff (ha : PE X e te) (hr : PA X es t) (hs : starEach (e :: es) X.env = (false, eval e X.env) :: starEach es X.env := by rfl) : PA X (e :: es) (ji te t) := by
 intro pos pins s σ H Q I h
 rw [hs]
 show wpAny _ _ (spliced ((false, eval e X.env) :: backTo pos (starEach es X.env))) _ _ s
 refine Calls.spliced_cons (thn (ha pins s σ H _ I h) fun u s1 ⟨x, H1, I1, r1, q1⟩ => ?_)
 exact thn (hr pos pins s1 σ H1 _ I1 q1) fun us s2 ⟨xs, H2, I2, r2, q2⟩ => ⟨x :: xs, H2, I2, .cons r1 r2, q2⟩
def Wa (t : TA) : TE := fun σ H Q => t σ H fun xs H1 => xs.length ≤ sizeLine ∧ ∀ p, H1 p = none → Q (.ref p) (upd H1 p (.tup xs))
def wb (t : TA) : TE := fun σ H Q => t σ H fun xs H1 => xs.length ≤ sizeLine ∧ ∀ p, H1 p = none → Q (.ref p) (upd H1 p (.lst xs))
theorem Wb {x1} (h : PA X es t) : PE X (.Tuple es x1 pos) (Wa t) := by
 intro pins s σ H Q I hq
 refine wpAny_Tuple_spliced (thn (h pos pins s σ H _ I hq) fun us s1 ⟨xs, H1, I1, r, z, q⟩ => ⟨by rw [← r.length]; exact z, ?_⟩)
 have hf : H1 s1.heap.objs.size = none := I1.hok.fresh (Nat.le_refl _)
 refine ⟨.ref s1.heap.objs.size, upd H1 s1.heap.objs.size (.tup xs), I1.laid (t' := s1.toks) (fun b u e => Heap.get?_push_of_some _ e) (Nat.le_refl _) ?_, rfl, q _ hf⟩
 exact ⟨z, us, r, ⟨_, Heap.get?_push_size _ rfl, rfl, _, rfl⟩⟩
theorem wc (h : PA X es t) : PE X (.List es pos) (wb t) := by
 intro pins s σ H Q I hq
 refine wpAny_List_spliced (thn (h pos pins s σ H _ I hq) fun us s1 ⟨xs, H1, I1, r, z, q⟩ => ⟨by rw [← r.length]; exact z, ?_⟩)
 have hf : H1 s1.heap.objs.size = none := I1.hok.fresh (Nat.le_refl _)
 refine ⟨.ref s1.heap.objs.size, upd H1 s1.heap.objs.size (.lst xs), I1.laid (t' := s1.toks) (fun b u e => Heap.get?_push_of_some _ e) (Nat.le_refl _) ?_, rfl, q _ hf⟩
 exact ⟨z, us, 0, r, Heap.get?_push_size _ rfl⟩
end
abbrev Sp := List V → Hp → VK → XK → Prop
abbrev CXT := List Env → Hp → Shared → XK → Value → Shared → Prop
structure Env0 (P : Program) (w : World) (K : PySem.W.Frag) (mg : Str → Option Value) (base : Heap) (A : Around) (outer : List Env) (s : Shared) (H : Hp) : Prop where
 frames : A.frames = some outer
 mod : Mod K mg base
 bs : ∀ b o, base.get? b = some o → s.heap.get? b = some o ∧ H b = none
 bsz : base.objs.size ≤ s.heap.objs.size
 funs : s.heap.FunFrames base outer
 frf : ∀ b ∈ frs outer, H b = none
 hok : HOk P w H s.heap
 bare : AllBare s.gens
def CE (outer : List Env) (P : Program) (w : World) (H : Hp) (s : Shared) (Q : VK) (u : Value) (s' : Shared) : Prop :=
 ∃ v H', s'.os = s.os ∧ AllBare s'.gens ∧ Un (frs outer) [] H H' s.heap s'.heap ∧ HOk P w H' s'.heap ∧ RelV v u ∧ Q v H'
def CR (CX : CXT) (outer : List Env) (P : Program) (w : World) (H : Hp) (s : Shared) (Q : VK) (E : XK) (r : Result) (s' : Shared) : Prop :=
 match r with
 | .ok (.ret u) => CE outer P w H s Q u s'
 | .ok _ => False
 | .error e => CX outer H s E e s'
structure FnOk (P : Program) (w : World) (K : PySem.W.Frag) (mg : Str → Option Value) (base : Heap) (CX : CXT) (k : Nat) (f : Addr) (fd : FuncData) (ps : List Str) (sp : Sp) : Prop where
 len : ∀ vs H Q E, sp vs H Q E → vs.length = ps.length
 run : ∀ (A : Around) (outer : List Env) (s : Shared) (H : Hp) (args : Args) (us : List Value) (vs : List V) (Q : VK) (E : XK), Room k A → Env0 P w K mg base A outer s H → BindsTo s fd args (ps.zip us) → Vals vs us → sp vs H Q E →
  codeAny (model P w) A (.call (.ref f) args) (CR CX outer P w H s Q E) s
theorem FnOk.imp {P : Program} {w : World} {K : PySem.W.Frag} {mg : Str → Option Value} {base : Heap} {CX : CXT} {k : Nat} {f : Addr} {fd : FuncData} {ps : List Str} {sp sp' : Sp} (F : FnOk P w K mg base CX k f fd ps sp)
    (h : ∀ vs H Q E, sp' vs H Q E → sp vs H Q E) : FnOk P w K mg base CX k f fd ps sp' :=
  ⟨fun vs H Q E q => F.len vs H Q E (h _ _ _ _ q), fun A outer s H args us vs Q E hr he hb hv hs => F.run A outer s H args us vs Q E hr he hb hv (h _ _ _ _ hs)⟩
theorem Env0.make {P : Program} {w : World} {K : PySem.W.Frag} {mg : Str → Option Value} {base : Heap} {A : Around} {outer : List Env} {s : Shared} {H : Hp} (e : Env0 P w K mg base A outer s H) (C : Addr) (us : List Value) (kw : List (Str × Value)) :
    Env0 P w K mg base (A.under (.builtin "type.__call__" ⟨.ref C :: us, kw⟩)) outer s H := ⟨by first | exact e.frames | (simpa [Around.under, Code.envs, Code.isFrame, pushEnvs] using e.frames), e.mod, e.bs, e.bsz, e.funs, e.frf, e.hok, e.bare⟩
section
variable {X : Cx} {pins : List (Addr × Obj)} {σ : St} {H : Hp} {s s' : Shared}
theorem Inv.Bs (I : Inv X pins σ H s) : Env0 X.prog X.w X.K X.mg X.base X.A X.stack s H :=
 ⟨I.ok.frames, I.ok.mod, I.bs, Nat.le_trans I.ok.bsz I.sz, I.stack, I.stkFree, I.hok, I.bare⟩
theorem Inv.after (I : Inv X pins σ H s) (h : CE X.stack X.prog X.w H s Q u s') : EP X pins σ Q u s' := by
 obtain ⟨v, H', os, bare, un, hok, r, q⟩ := h
 obtain ⟨hh, g, d, t, os'⟩ := s'
 obtain rfl : os' = s.os := os
 exact ⟨v, H', I.call (h' := hh) (g' := g) (d' := d) (t' := t) (ch := []) un hok bare (fun b z => absurd z (by simp)), r, q⟩
end
def Wc (sp : Sp) (dvs : List V) (E : XK) (t : TA) : TE := fun σ H Q => t σ H fun vs H1 => sp (vs ++ dvs) H1 Q E
def Wd (C : Addr) (sp : Sp) (dvs : List V) (E : XK) (t : TA) : TE := fun σ H Q => t σ H fun vs H1 => ∀ x dx, H1 x = none → H1 dx = none → dx ≠ x →
 sp (.ref x :: (vs ++ dvs)) (upd (upd H1 dx (.own x)) x (.ins C dx [])) (fun v H2 => v = .non ∧ Q (.ref x) H2) E
def Binds (K : PySem.W.Frag) (fd : FuncData) (ps : List Str) (ds : List Value) : Prop :=
 ∀ (s : Shared) (us : List Value), K.In s.heap → (us ++ ds).length = ps.length → BindsTo s fd ⟨us, []⟩ (ps.zip (us ++ ds))
theorem Binds.all {K : PySem.W.Frag} {fd : FuncData} {ps : List Str} (h : ∀ us : List Value, us.length = ps.length → bindArgs fd ⟨us, []⟩ = pure (ps.zip us)) : Binds K fd ps [] := fun s us _ hl => by
 rw [List.append_nil] at hl ⊢
 exact .of_eq (h us hl)
def Passes (CX : CXT) (X : Cx) (E : XK) : Prop := ∀ (pins : List (Addr × Obj)) (σ : St) (H : Hp) (s : Shared) (e : Value) (s' : Shared), Inv X pins σ H s → CX X.stack H s E e s' → X.xe e s'
section
variable {X : Cx} {CX : CXT} {k : Nat} {f C : Addr} {fd : FuncData} {ps : List Str} {sp : Sp} {dvs : List V} {ds : List Value} {E : XK} {x m : Str} {p pos apos : Pos} {e o : Expr} {es : List Expr} {ta : TE} {t : TA}
theorem we {σ : St} (F : FnOk X.prog X.w X.K X.mg X.base CX k f fd ps sp) (hr : Room k X.A) (hb : Binds X.K fd ps ds) (hd : Vals dvs ds) (hx : Passes CX X E)
    (I : Inv X pins σ H s) (r : Vals vs us) (h : sp (vs ++ dvs) H Q E) : wpAny (model X.prog X.w) X.A (call (.ref f) us) (EP X pins σ Q) X.xe s := by
  have r2 : Vals (vs ++ dvs) (us ++ ds) := r.append hd
  have hl : (us ++ ds).length = ps.length := by rw [← r2.length]; exact F.len _ _ _ _ h
  refine wpAny_call (codeAny_mono (F.run X.A X.stack s H ⟨us, []⟩ (us ++ ds) (vs ++ dvs) Q E hr I.Bs (hb s us I.kIn hl) r2 h) fun r s' hq => ?_)
  cases r with
  | error e => exact hx pins σ H s e s' I hq
  | ok fl =>
    cases fl with
    | ret u => exact I.after hq
    | next => exact False.elim hq
    | brk => exact False.elim hq
    | cont => exact False.elim hq
theorem We (F : FnOk X.prog X.w X.K X.mg X.base CX k f fd ps sp) (hr : Room k X.A) (hg : Gl X x) (hm : X.mg x = some (.ref f)) (hk : PySem.W.keepIn X.K (.ref f) = true) (hb : Binds X.K fd ps ds) (hd : Vals dvs ds) (hx : Passes CX X E)
    (ha : PA X (e :: es) t) (hdb : (x == ("__debug__" : Str)) = false := by decide) (he : starEach (e :: es) X.env = (false, eval e X.env) :: starEach es X.env := by rfl) (hpl : (backTo pos (starEach es X.env)).any (·.1) = false := by rfl) :
    PE X (.Call (.Name x p) (e :: es) [] pos) (Wc sp dvs E t) := by
  intro pins s σ H Q I h
  refine wpAny_Call_Name_kw (Hn I hg hm ?_ hdb)
  refine PySem.W.callWith_K (h₀ := X.base) I.ok.mod.kin hk (thn (ha pos pins s σ H _ I h) fun us s1 ⟨vs, H1, I1, r, q⟩ => ⟨I1.kIn, ?_⟩) he hpl
  exact we F hr hb hd hx I1 r q
structure Mk (K : PySem.W.Frag) (C f : Addr) : Prop where
 makes : PySem.W.makesIn K C = true
 init : PySem.W.findIn K (.ref C) "__init__" = some (some (.ref f))
 fn : PySem.W.isFn K (.ref f) = true
 kp : PySem.W.keepIn K (.ref C) = true
theorem Wf {σ : St} (M : Mk X.K C f) (F : FnOk X.prog X.w X.K X.mg X.base CX k f fd ps sp) (hr : Room (k + 1) X.A) (hb : Binds X.K fd ps ds) (hd : Vals dvs ds)
    (hx : Passes CX X E) (I : Inv X pins σ H s) (r : Vals vs us)
    (h : ∀ x dx, H x = none → H dx = none → dx ≠ x → sp (.ref x :: (vs ++ dvs)) (upd (upd H dx (.own x)) x (.ins C dx [])) (fun v H2 => v = .non ∧ Q (.ref x) H2) E) :
    wpAny (model X.prog X.w) X.A (call (.ref C) us) (EP X pins σ Q) X.xe s := by
  have hq := h (s.heap.objs.size + 1) s.heap.objs.size (I.hok.fresh (Nat.le_succ _)) (I.hok.fresh (Nat.le_refl _)) (Nat.ne_of_lt (Nat.lt_succ_self _))
  have I2 := Inv.made (C := C) I
  have r2 : Vals (V.ref (s.heap.objs.size + 1) :: (vs ++ dvs)) (Value.ref (s.heap.objs.size + 1) :: (us ++ ds)) := .cons rfl (r.append hd)
  have hl : (Value.ref (s.heap.objs.size + 1) :: us ++ ds).length = ps.length := by
    have e := r2.length
    rw [F.len _ _ _ _ hq] at e
    exact e.symm
  refine wpAny_call (Vt (f := f) I.kIn M.makes M.init (beq_iff_eq.mp M.fn) (codeAny_mono (F.run _ X.stack _ _ ⟨Value.ref (s.heap.objs.size + 1) :: us, []⟩ (Value.ref (s.heap.objs.size + 1) :: (us ++ ds)) _ _ E (hr.make C us [])
    (I2.Bs.make C us []) (hb _ (Value.ref (s.heap.objs.size + 1) :: us) I2.kIn hl) r2 hq) fun r s' hq' => ?_))
  cases r with
  | error e => exact hx pins σ _ _ e s' I2 hq'
  | ok fl =>
    cases fl with
    | ret u =>
      obtain ⟨v, H', I3, rv, ev, q3⟩ := I2.after hq'
      subst ev
      exact ⟨rv, ⟨V.ref (s.heap.objs.size + 1), H', I3, rfl, q3⟩⟩
    | next => exact False.elim hq'
    | brk => exact False.elim hq'
    | cont => exact False.elim hq'
theorem wg (M : Mk X.K C f) (F : FnOk X.prog X.w X.K X.mg X.base CX k f fd ps sp) (hr : Room (k + 1) X.A) (hg : Gl X x) (hm : X.mg x = some (.ref C)) (hb : Binds X.K fd ps ds) (hd : Vals dvs ds) (hx : Passes CX X E)
    (ha : PA X (e :: es) t) (hdb : (x == ("__debug__" : Str)) = false := by decide) (he : starEach (e :: es) X.env = (false, eval e X.env) :: starEach es X.env := by rfl) (hpl : (backTo pos (starEach es X.env)).any (·.1) = false := by rfl) :
    PE X (.Call (.Name x p) (e :: es) [] pos) (Wd C sp dvs E t) := by
  intro pins s σ H Q I h
  refine wpAny_Call_Name_kw (Hn I hg hm ?_ hdb)
  refine PySem.W.callWith_K (h₀ := X.base) I.ok.mod.kin M.kp (thn (ha pos pins s σ H _ I h) fun us s1 ⟨vs, H1, I1, r, q⟩ => ⟨I1.kIn, ?_⟩) he hpl
  exact Wf M F hr hb hd hx I1 r q
end
section
variable {X : Cx} {CX : CXT} {k : Nat} {f C : Addr} {fd : FuncData} {ps ks : List Str} {sp : Sp} {E : XK} {x m : Str} {p pos apos kpos : Pos} {e o : Expr} {es : List Expr} {kws : List Keyword} {te ta : TE} {t tk : TA} {nm : Option Str}
variable {g : List Value → List Value → List Value} {gV : List V → List V → List V}
end
structure FnScope (N P : List Str) (sc : Scope) : Prop where
 kind : sc.kind = .function
 co : sc.isCoroutine = false
 gen : sc.isGenerator = false
 nd : N.Nodup
 pre : N.take P.length = P
 par : ∀ x ∈ P, sc.names.lookup x = some .local ∨ sc.names.lookup x = some .cell
 nofree : ∀ y ∈ sc.names, y.2 ≠ .free
theorem Pd {kindOf : Str → Option NameKind} {x : Str} : ∀ {binds : List (Str × Value)} {m : Str → Option Value}, (∀ v, (x, v) ∉ binds) → bindL kindOf binds m x = m x
 | [], _, _ => rfl
 | (n, v) :: r, m, h => by
  unfold bindL
  rw [Pd fun w hw => h w (List.mem_cons_of_mem _ hw)]
  split
  · have : x ≠ n := by rintro rfl; exact h v List.mem_cons_self
    simp [this]
  · rfl
theorem pe {kindOf : Str → Option NameKind} {x : Str} : ∀ {binds : List (Str × Value)} {m : Str → Option Value}, (∀ v, (x, v) ∉ binds) → bindC kindOf binds m x = m x
 | [], _, _ => rfl
 | (n, v) :: r, m, h => by
  unfold bindC
  rw [pe fun w hw => h w (List.mem_cons_of_mem _ hw)]
  split
  · rfl
  · have : x ≠ n := by rintro rfl; exact h v List.mem_cons_self
    simp [this]
theorem Pe {kindOf : Str → Option NameKind} {x : Str} {v : Value} : ∀ {P : List Str} {vs : List Value} {i : Nat} {m : Str → Option Value}, P.Nodup → P[i]? = some x → vs[i]? = some v → kindOf x = some .local →
    bindL kindOf (P.zip vs) m x = some v
  | [], _, _, _, _, h, _, _ => by simp at h
  | _ :: _, [], _, _, _, _, h, _ => by simp at h
  | p :: P, w :: vs, 0, m, nd, h1, h2, hk => by
    simp at h1 h2; subst h1; subst h2
    show bindL kindOf ((p, w) :: P.zip vs) m p = _
    unfold bindL
    rw [Pd fun v hv => (List.nodup_cons.mp nd).1 (List.of_mem_zip hv).1, if_pos hk]
    simp
  | p :: P, w :: vs, i + 1, m, nd, h1, h2, hk => by
    show bindL kindOf ((p, w) :: P.zip vs) m x = _
    unfold bindL
    exact Pe (i := i) (List.nodup_cons.mp nd).2 (by simpa using h1) (by simpa using h2) hk
theorem pf {kindOf : Str → Option NameKind} {x : Str} {v : Value} : ∀ {P : List Str} {vs : List Value} {i : Nat} {m : Str → Option Value}, P.Nodup → P[i]? = some x → vs[i]? = some v → kindOf x ≠ some .local →
    bindC kindOf (P.zip vs) m x = some v
  | [], _, _, _, _, h, _, _ => by simp at h
  | _ :: _, [], _, _, _, _, h, _ => by simp at h
  | p :: P, w :: vs, 0, m, nd, h1, h2, hk => by
    simp at h1 h2; subst h1; subst h2
    show bindC kindOf ((p, w) :: P.zip vs) m p = _
    unfold bindC
    rw [pe fun v hv => (List.nodup_cons.mp nd).1 (List.of_mem_zip hv).1, if_neg hk]
    simp
  | p :: P, w :: vs, i + 1, m, nd, h1, h2, hk => by
    show bindC kindOf ((p, w) :: P.zip vs) m x = _
    unfold bindC
    exact pf (i := i) (List.nodup_cons.mp nd).2 (by simpa using h1) (by simpa using h2) hk
def start (N : List Str) (vs : List V) : St := vs.map some ++ List.replicate (N.length - vs.length) none
def Ds (CX : CXT) (P : Program) (w : World) (K : PySem.W.Frag) (mg : Str → Option Value) (base : Heap) (N : List Str) (qual : Str) (scope : Scope) (f : Addr) (cd : Value) (A : Around) (outer : List Env) (s : Shared) (H : Hp) (E : XK) : Cx where
 prog := P
 w := w
 K := K
 mg := mg
 base := base
 A := A.deeper (envOfC qual scope s.heap.objs.size f cd)
 N := N
 s₀ := s
 H₀ := H
 env := envOfC qual scope s.heap.objs.size f cd
 outer := outer
 stack := envOfC qual scope s.heap.objs.size f cd :: outer
 ex := []
 calm := true
 fn := fun _ => true
 pn := []
 xe := fun e s' => wpAny (model P w) (A.deeper (envOfC qual scope s.heap.objs.size f cd)) (leaving (envOfC qual scope s.heap.objs.size f cd) e) (fun _ s'' => CX outer H s E e s'') (fun e' s'' => CX outer H s E e' s'') s'
theorem Pf {sc : Scope} {n : Nat} {x : Str} (h : sc.names.lookup x = some .cell) : ∃ c, (cellsFrom n sc.names []).lookup x = some c := by
 have q := PySem.W.cellsFrom_some sc.names n [] (.inl h)
 exact Option.isSome_iff_exists.mp q
theorem Wg {CX : CXT} {P : Program} {w : World} {K : PySem.W.Frag} {mg : Str → Option Value} {base : Heap} {N ps : List Str} {qual : Str} {scope : Scope} {f : Addr} {cd : Value} {A : Around} {outer : List Env} {s s1 : Shared} {H : Hp} {E : XK} {us : List Value} {vs : List V}
    (S : FnScope N ps scope) (hd : A.handled = none) (e0 : Env0 P w K mg base A outer s H) (hl : vs.length = ps.length) (r : Vals vs us)
    (x : InCallC s s.heap.objs.size (bindL (envOfC qual scope s.heap.objs.size f cd).kindOf (ps.zip us) fun _ => none) (cellsFrom (s.heap.objs.size + 1) scope.names []) (bindC (envOfC qual scope s.heap.objs.size f cd).kindOf (ps.zip us) fun _ => none) s1) :
    Inv (Ds CX P w K mg base N qual scope f cd A outer s H E) [] (start N vs) H s1 := by
  have hpl : ps.length ≤ N.length := by have := congrArg List.length S.pre; rw [List.length_take] at this; omega
  obtain ⟨h1, tk, rfl, hk⟩ := x.done
  have noA : ∀ b : Addr, b ∉ (Ds CX P w K mg base N qual scope f cd A outer s H E).ex := fun b z => absurd (show b ∈ ([] : List Addr) from z) (by simp)
  refine ⟨⟨e0.mod, S.kind, rfl, rfl, Nat.le_refl _, fun y z c h1 h2 => ?_, fun y hy => ?_, fun y c _ h => ?_, fun _ => hd, Around.frames_deeper e0.frames, .inr ⟨rfl, rfl⟩, fun b z => absurd z (noA b), e0.bs, e0.bsz, fun b _ _ => noA b, fun b z => absurd z (noA b), e0.funs, e0.frf⟩,
    rfl, e0.bare, Un.kept hk, ⟨_, x.toInCall.ns, fun i y v h1 h2 h3 => ?_⟩, fun y c h => ⟨_, x.cell y c h⟩, e0.hok.fresh (Nat.le_refl _), fun y c h => ?_, fun p hp => absurd (show p ∈ ([] : List (Addr × Obj)) from hp) (by simp), e0.hok.kept hk, ?_⟩
  · exact name_of_addr x.apart (PySem.mem_of_lookup h1) (PySem.mem_of_lookup h2)
  · have hy : scope.names.lookup y = some .cell ∨ scope.names.lookup y = some .free := hy
    rcases hy with hy | hy
    · exact Pf hy
    · exact absurd rfl (S.nofree _ (PySem.mem_of_lookup hy))
  · exact Nat.le_of_lt (x.above y c (PySem.mem_of_lookup h))
  · have hi : i < vs.length := by
      unfold start at h2
      by_cases hi : i < vs.length
      · exact hi
      · rw [List.getElem?_append_right (by simpa using hi)] at h2
        rw [List.getElem?_replicate] at h2
        split at h2 <;> cases h2
    have ha : vs[i]? = some v := by
      unfold start at h2
      rw [List.getElem?_append_left (by simpa using hi), List.getElem?_map] at h2
      cases e : vs[i]? with
      | none => rw [e] at h2; cases h2
      | some a => rw [e] at h2; cases h2; rfl
    obtain ⟨u, hu, rv⟩ := r.get ha
    have hp : ps[i]? = some y := by
      rw [← S.pre, List.getElem?_take_of_lt (by omega)]; exact h1
    have ndP : ps.Nodup := by rw [← S.pre]; exact S.nd.sublist (List.take_sublist _ _)
    refine ⟨u, rv, ?_⟩
    rcases S.par y (List.mem_of_getElem? hp) with k | k
    · exact .inl ⟨k, Pe ndP hp hu k⟩
    · obtain ⟨c, e⟩ := Pf (n := s.heap.objs.size + 1) k
      refine .inr ⟨.inl k, c, e, ?_⟩
      have q := x.cell y c e
      rw [pf ndP hp hu (by show scope.names.lookup y ≠ _; rw [k]; decide)] at q
      exact q
  · exact e0.hok.fresh (Nat.le_of_lt (x.above y c (PySem.mem_of_lookup h)))
  · unfold start
    show _ = N.length
    rw [List.length_append, List.length_map, List.length_replicate]
    omega
theorem Ji {CX : CXT} {P : Program} {w : World} {K : PySem.W.Frag} {mg : Str → Option Value} {base : Heap} {k : Nat} {f : Addr} {name qual : Str} {params : Arguments} {body : List Stmt} {scope : Scope} {dV kV doc pm cdv ct oc : Value} {an od : Option Addr}
    {osl : Array (Option Value)} {N ps : List Str} {sp : Sp} (lk : K.lookup f = some ⟨oc, od, .func (PySem.W.fnOf name qual params body scope dV kV doc pm an cdv ct), osl⟩) (hcd : PySem.W.codeIn K cdv qual = true) (S : FnScope N ps scope)
    (len : ∀ vs H Q E, sp vs H Q E → vs.length = ps.length)
    (hbody : ∀ (A : Around) (outer : List Env) (s : Shared) (H : Hp) (vs : List V) (Q : VK) (E : XK), Room k (A.deeper (envOfC qual scope s.heap.objs.size f cdv)) → sp vs H Q E →
      ∃ t, PSs (Ds CX P w K mg base N qual scope f cdv A outer s H E) body t ∧ t { nx := fun _ H' => Q .non H', rt := Q } (start N vs) H) :
    FnOk P w K mg base CX (k + 1) f (PySem.W.fnOf name qual params body scope dV kV doc pm an cdv ct) ps sp := by
  refine ⟨len, fun A outer s H args us vs Q E hr e0 hb r hsp => ?_⟩
  have hl := len _ _ _ _ hsp
  have KX : K.In s.heap := e0.mod.kin.keeps fun b o e => (e0.bs b o e).1
  have lim : s.heap.NoLimit := e0.mod.nolimit.keeps fun b o e => (e0.bs b o e).1
  have hkind : ∀ y ∈ ps.zip us, scope.names.lookup y.1 = some .local ∨ (scope.names.lookup y.1 = some .cell ∧ ((cellsFrom (s.heap.objs.size + 1) scope.names []).lookup y.1).isSome = true) := fun ⟨n, v⟩ hy => by
    rcases S.par n (List.of_mem_zip hy).1 with q | q
    · exact .inl q
    · exact .inr ⟨q, PySem.W.cellsFrom_some _ _ _ (.inl q)⟩
  refine codeAny_call_function hr.depth (KX _ _ lk) rfl S.co S.gen rfl (PySem.W.codeRec_of KX hcd) (hb _ _ _ _ ?_)
  refine wpAny_newFunctionEnv_cells S.kind hkind fun env he s1 x => ?_
  subst he
  refine ⟨lim.keeps x.toInCall.keep, codeAny_func ?_⟩
  obtain ⟨t, ht, hq⟩ := hbody A outer s H vs Q E (hr.deeper _) hsp
  have I : Inv (Ds CX P w K mg base N qual scope f cdv A outer s H E) [] (start N vs) H s1 := Wg S hr.hd e0 hl r x
  refine wpAny_mono (ht [] s1 (start N vs) H _ I hq) (fun fl s' hs => ?_) fun e s' hs => hs
  have fin : ∀ {σ' : St} {H' : Hp} {v : V} {u : Value}, Inv (Ds CX P w K mg base N qual scope f cdv A outer s H E) [] σ' H' s' → RelV v u → Q v H' → CE outer P w H s Q u s' :=
    fun {σ' H' v u} J rv q => ⟨v, H', J.os, J.bare, J.base, J.hok, rv, q⟩
  cases fl with
  | ret u =>
    obtain ⟨v, σ', H', J, rv, q⟩ := hs
    exact fin J rv q
  | next =>
    obtain ⟨σ', H', J, q⟩ := hs
    exact fin (v := V.non) (u := Value.none) J rfl q
  | brk =>
    obtain ⟨_, _, _, q⟩ := hs
    exact False.elim q
  | cont =>
    obtain ⟨_, _, _, q⟩ := hs
    exact False.elim q
end L2
namespace L2
open PySem PySem.Spec PyProof.Rows
section
variable {X : Cx} {x : Str} {p pos : Pos} {e : Expr} {es : List Expr} {t : TA} {id T : String} {r : List V → Hp → VK → Prop}
def tCB (r : List V → Hp → VK → Prop) (t : TA) : TE := fun σ H Q => t σ H fun vs H1 => r vs H1 Q
theorem Ht (hc : cz X (.builtin id) r) (hg : Gl X x) (hm : X.mg x = none) (hv : bootBuiltins x = some (.builtin id)) (ha : PA X (e :: es) t) (hn : x ≠ "__name__" := by decide) (hdb : (x == ("__debug__" : Str)) = false := by decide)
    (he : starEach (e :: es) X.env = (false, eval e X.env) :: starEach es X.env := by rfl) (hpl : (backTo pos (starEach es X.env)).any (·.1) = false := by rfl) : PE X (.Call (.Name x p) (e :: es) [] pos) (tCB r t) := by
  intro pins s σ H Q I h
  refine wpAny_Call_Name_kw (gk I hg hm hv ?_ hn hdb)
  exact PyProof.Rows.callWith_builtin1 (thn (ha pos pins s σ H _ I h) fun us s1 ⟨vs, H1, I1, r1, q1⟩ => hc pins s1 σ H1 vs us Q I1 r1 q1) he hpl
theorem lz (hc : cz X (.type T) r) (hg : Gl X x) (hm : X.mg x = none) (hv : bootBuiltins x = some (.type T)) (ha : PA X (e :: es) t) (hn : x ≠ "__name__" := by decide) (hdb : (x == ("__debug__" : Str)) = false := by decide)
    (he : starEach (e :: es) X.env = (false, eval e X.env) :: starEach es X.env := by rfl) (hpl : (backTo pos (starEach es X.env)).any (·.1) = false := by rfl) : PE X (.Call (.Name x p) (e :: es) [] pos) (tCB r t) := by
  intro pins s σ H Q I h
  refine wpAny_Call_Name_kw (gk I hg hm hv ?_ hn hdb)
  exact PyProof.Rows.callWith_type1 (thn (ha pos pins s σ H _ I h) fun us s1 ⟨vs, H1, I1, r1, q1⟩ => hc pins s1 σ H1 vs us Q I1 r1 q1) he hpl
end
end L2
namespace HT
open PySem PyProof.Rows
section
open PySem.SeqAt
open PySem.AutoSeq1 (wpAny_loadPart')
open PySem.MeetsSeq PySem.MeetsSeq2 PySem.MeetsSeq3
end
section
variable {prog : Program} {w : World} {A : Around} {E : Value → Shared → Prop} {s : Shared}
def sIx (n d : Nat) : Option Int → Nat
 | none => d
 | some v => if v < 0 then (v + (n : Int)).toNat else min v.toNat n
theorem Pg (n d : Nat) : sIx n d none = d := rfl
theorem jj (n d k : Nat) : sIx n d (some (k : Int)) = min k n := by
 show (if (k : Int) < 0 then ((k : Int) + (n : Int)).toNat else min (k : Int).toNat n) = min k n
 rw [if_neg (by omega), Int.toNat_natCast]
theorem Wh (n d : Nat) (hd : d ≤ n) (o : Option Int) : sIx n d o ≤ n := by
 cases o with
 | none => exact hd
 | some v =>
  show (if v < 0 then (v + (n : Int)).toNat else min v.toNat n) ≤ n
  by_cases hv : v < 0
  · rw [if_pos hv]; omega
  · rw [if_neg hv]; exact Nat.min_le_right _ _
theorem ph (v : Int) (n d : Nat) : (if v < 0 then max (v + (n : Int)) 0 else min v (n : Int)) = ((sIx n d (some v) : Nat) : Int) := by
 show (if v < 0 then max (v + (n : Int)) 0 else min v (n : Int)) = (((if v < 0 then (v + (n : Int)).toNat else min v.toNat n) : Nat) : Int)
 by_cases hv : v < 0
 · simp only [if_pos hv]; omega
 · simp only [if_neg hv]; omega
theorem Wi (lo hi : Option Int) (n : Nat) : Builtin.Slice.sliceAdjust lo hi 1 (n : Int) = (((sIx n 0 lo : Nat) : Int), ((sIx n n hi : Nat) : Int)) := by
 have h1 : ¬ ((1 : Int) < 0) := by omega
 unfold Builtin.Slice.sliceAdjust
 simp only [h1, if_false]
 refine Prod.ext ?_ ?_
 · cases lo with
   | none => rfl
   | some v => exact ph v n 0
 · cases hi with
   | none => rfl
   | some v => exact ph v n n
theorem wj (i j : Nat) : Builtin.Slice.slicePlaces (i : Int) (j : Int) 1 = j - i := by
 unfold Builtin.Slice.slicePlaces
 have h1 : (1 : Int) > 0 := by omega
 simp only [h1, if_true, Int.ediv_one]
 split <;> omega
theorem Ph (p : IsPart v o) (h : Q o s) : wpAny (model prog w) A (Builtin.Slice.slicePartIndex v) Q E s := by
 cases p with
 | none => exact slicePart_none h
 | int i t => exact slicePart_int h
theorem pj {sl : Addr} {vl vu : Value} {lo hi : Option Int} {n : Nat} {Q : Int × Int × Nat → Shared → Prop} (hs : s.heap.IsSliceOf sl vl vu .none) (pl : IsPart vl lo) (pu : IsPart vu hi)
    (h : Q (((sIx n 0 lo : Nat) : Int), 1, sIx n n hi - sIx n 0 lo) s) : wpAny (model prog w) A (Builtin.Slice.sliceApplied (.ref sl) (pure (n : Int))) Q E s := by
  obtain ⟨os, hos, hcs, hds⟩ := id hs
  unfold Builtin.Slice.sliceApplied Builtin.Slice.sliceFields
  refine wpAny_bind (wpAny_bind (wpAny_field hos hds (x := vl) rfl (wpAny_bind (wpAny_field hos hds (x := vu) rfl (wpAny_bind (wpAny_field hos hds (x := .none) rfl (wpAny_pure ?_)))))))
  refine wpAny_bind (slicePart_none ?_)
  show wpAny _ _ (if ((1 : Int) == 0) = true then _ else _) _ _ s
  rw [if_neg (by decide)]
  refine wpAny_bind (Ph pl (wpAny_bind (Ph pu (wpAny_bind (wpAny_pure ?_)))))
  show wpAny _ _ (match Builtin.Slice.sliceAdjust lo hi 1 (n : Int) with | (lo, hi) => pure (lo, (1 : Int), Builtin.Slice.slicePlaces lo hi 1)) _ _ s
  rw [Wi lo hi n]
  show wpAny _ _ (pure (((sIx n 0 lo : Nat) : Int), (1 : Int), Builtin.Slice.slicePlaces ((sIx n 0 lo : Nat) : Int) ((sIx n n hi : Nat) : Int) 1)) _ _ s
  rw [wj]
  exact wpAny_pure h
theorem Wj (xs : Array Value) (i k : Nat) : ((List.range k).filterMap fun (m : Nat) => xs[((i : Int) + (m : Int) * 1).toNat]?).toArray = ((xs.toList.drop i).take k).toArray := by
 have e : (fun (m : Nat) => xs[((i : Int) + (m : Int) * 1).toNat]?) = fun m => xs[i + m]? := by
  funext m
  have : ((i : Int) + (m : Int) * 1).toNat = i + m := by omega
  rw [this]
 rw [e]
 have := pick_run xs i k
 rw [List.filterMap_map] at this
 have e2 : ((fun x => xs[x]?) ∘ fun x => i + x) = fun m => xs[i + m]? := rfl
 rw [e2] at this
 rw [this]
theorem Wk {t sl : Addr} {items : Array Value} {vl vu : Value} {lo hi : Option Int} {Q : Value → Shared → Prop} (ht : IsTup s.heap t items) (hs : s.heap.IsSliceOf sl vl vu .none) (pl : IsPart vl lo) (pu : IsPart vu hi)
    (hw : ¬ (sIx items.size 0 lo = 0 ∧ sIx items.size items.size hi = items.size))
    (h : Q (.ref s.heap.objs.size) { s with heap := s.heap.push { cls := .type "tuple", data := .seq ((items.toList.drop (sIx items.size 0 lo)).take (sIx items.size items.size hi - sIx items.size 0 lo)).toArray } })
    (hsz : items.size ≤ sizeLine) : wpAny (model prog w) A (getItem (.ref t) (.ref sl)) Q E s := by
  have htake : sizeOk (.seq ((items.toList.drop (sIx items.size 0 lo)).take (sIx items.size items.size hi - sIx items.size 0 lo)).toArray) := by
    show ((items.toList.drop (sIx items.size 0 lo)).take (sIx items.size items.size hi - sIx items.size 0 lo)).toArray.size ≤ sizeLine
    rw [List.size_toArray, List.length_take, List.length_drop, Array.length_toList]
    omega
  have hj : sIx items.size items.size hi ≤ items.size := Wh _ _ (Nat.le_refl _) hi
  obtain ⟨os, hos, hcs, hds⟩ := id hs
  have hTs : s.TypeIs (.ref sl) "slice" := ⟨os, hos, hcs⟩
  unfold getItem
  try with_reducible refine wpAny_holding ?_
  first | refine wpAny_bind (wpAny_pure ?_) | skip
  refine wpAny_bind (wpAny_sequenceKey ht.typeIs (by decide) ?_)
  refine wpAny_bind (wpAny_callSpecial?_slot (name := Str.ofString "__getitem__") ht.typeIs PyProof.Rows.slot_tuple_getitem
    (wpAny_call_entry PyProof.Rows.slot_tuple_getitem ht.typeIs entry_tuple_getitem ?_ (args_tuple_getitem _ _)))
  show wpAny _ _ (Builtin.Tuple.tupleItemsOf (.ref t) >>= _) _ _ s
  refine wpAny_bind (tupleItemsOf_ ht ?_)
  refine wpAny_bind (wpAny_typeOf hTs ?_)
  rw [if_pos (by decide)]
  refine wpAny_bind (pj hs pl pu ?_)
  have hno : ¬ ((((sIx items.size 0 lo : Nat) : Int) == 0 && (1 : Int) == 1 && (sIx items.size items.size hi - sIx items.size 0 lo) == items.size) = true) := by
    intro q
    rw [Bool.and_eq_true, Bool.and_eq_true] at q
    have q1 : ((sIx items.size 0 lo : Nat) : Int) = 0 := eq_of_beq q.1.1
    have q2 : sIx items.size items.size hi - sIx items.size 0 lo = items.size := eq_of_beq q.2
    exact hw ⟨by omega, by omega⟩
  show wpAny _ _ (if (((sIx items.size 0 lo : Nat) : Int) == 0 && (1 : Int) == 1 && (sIx items.size items.size hi - sIx items.size 0 lo) == items.size) = true then _ else _) _ _ s
  rw [if_neg hno, Wj]
  first
    | exact wpAny_bind (m := Builtin.Tuple.tupleExact _) (wpAny_newObj_type (wpAny_pure ⟨_, rfl, wpAny_pure h⟩) htake)
    | exact wpAny_bind (m := Builtin.Tuple.tupleExact _) (wpAny_newObj_type (wpAny_bind (wpAny_pure (wpAny_pure ⟨_, rfl, wpAny_pure h⟩))) htake)
    | exact wpAny_bind (wpAny_bind (m := Builtin.Tuple.tupleExact _) (wpAny_newObj_type (wpAny_pure (wpAny_pure ⟨_, rfl, wpAny_pure h⟩)) htake))
    | exact wpAny_bind (wpAny_bind (m := Builtin.Tuple.tupleExact _) (wpAny_newObj_type (wpAny_pure ⟨_, rfl, wpAny_pure h⟩) htake))
end
end HT
namespace L2
open PySem PySem.Spec PyProof.Rows
abbrev TO := St → Hp → (Option Int → Hp → Prop) → Prop
def PO (X : Cx) (e : Option Expr) (t : TO) : Prop :=
 ∀ (pins : List (Addr × Obj)) (s : Shared) (σ : St) (H : Hp) (Q : Option Int → Hp → Prop), Inv X pins σ H s → t σ H Q →
  wpAny (model X.prog X.w) X.A (evalPart e X.env) (fun u s' => ∃ o H', Inv X pins σ H' s' ∧ IsPart u o ∧ Q o H') X.xe s
def Wl : TO := fun _ H Q => Q none H
def wm (t : TE) : TO := fun σ H Q => t σ H fun x H1 => ∃ i, x = .int i ∧ Q (some i) H1
section
variable {X : Cx} {e : Expr} {te : TE} {lo hi : Option Expr} {tl th : TO} {pos p2 : Pos}
theorem Pj : PO X none Wl := by
 intro pins s σ H Q I h
 rw [evalPart_none]
 exact wpAny_pure ⟨none, H, I, .none, h⟩
theorem Jj (h : PE X e te) : PO X (some e) (wm te) := by
 intro pins s σ H Q I hw
 rw [evalPart_some]
 refine thn (h pins s σ H _ I hw) fun u s1 ⟨x, H1, I1, r1, q1⟩ => ?_
 obtain ⟨i, rfl, q⟩ := q1
 obtain ⟨t, rfl⟩ := r1
 exact ⟨some i, H1, I1, .int i t, q⟩
def SlR (X : Cx) (r : V → Option Int → Option Int → Hp → VK → Prop) : Prop :=
 ∀ (pins : List (Addr × Obj)) (s : Shared) (σ : St) (H : Hp) (x : V) (v vl vu : Value) (lo hi : Option Int) (sl : Addr) (Q : VK), Inv X pins σ H s → RelV x v → s.heap.IsSliceOf sl vl vu .none → IsPart vl lo → IsPart vu hi → r x lo hi H Q →
  ∃ T id, typeLookup (.type T) "__getitem__" = pure (some (.builtin id)) ∧ s.TypeIs v T ∧ wpAny (model X.prog X.w) X.A (getItem v (.ref sl)) (EP X pins σ Q) X.xe s
theorem SlR.or (h : SlR X r) (h' : SlR X r') : SlR X (fun x lo hi H Q => r x lo hi H Q ∨ r' x lo hi H Q) := by
 intro pins s σ H x v vl vu lo hi sl Q I rx hs pl pu q
 rcases q with q | q
 · exact h pins s σ H x v vl vu lo hi sl Q I rx hs pl pu q
 · exact h' pins s σ H x v vl vu lo hi sl Q I rx hs pl pu q
def tSl (r : V → Option Int → Option Int → Hp → VK → Prop) (te : TE) (tl th : TO) : TE := fun σ H Q => te σ H fun x H1 => tl σ H1 fun l H2 => th σ H2 fun u H3 => r x l u H3 Q
theorem Lz (hr : SlR X r) (he : PE X e te) (hl : PO X lo tl) (hu : PO X hi th) : PE X (.Subscript e (.Slice lo hi none p2) pos) (tSl r te tl th) := by
 intro pins s σ H Q I h
 refine Subscript_ (thn (he pins s σ H _ I h) fun v s1 ⟨x, H1, I1, r1, q1⟩ => ?_)
 refine wpAny_Slice (thn (hl pins s1 σ H1 _ I1 q1) fun vl s2 ⟨l, H2, I2, pl, q2⟩ => thn (hu pins s2 σ H2 _ I2 q2) fun vu s3 ⟨u, H3, I3, pu, q3⟩ => ?_)
 rw [evalPart_none]
 refine wpAny_pure ?_
 have I4 : Inv X pins σ H3 { s3 with heap := s3.heap.push { cls := .type "slice", data := .fields #[vl, vu, .none] } } := I3.kept (t' := s3.toks) fun b ob q => Heap.get?_push_of_some _ q
 obtain ⟨T, id, hT, ht, hg⟩ := hr pins { s3 with heap := s3.heap.push { cls := .type "slice", data := .fields #[vl, vu, .none] } } σ H3 x v vl vu l u s3.heap.objs.size Q I4 r1 (Heap.IsSliceOf.new ..) pl pu q3
 show wpAny (model X.prog X.w) X.A (subscriptTail e (.Slice lo hi none p2) v (.ref s3.heap.objs.size)) (EP X pins σ Q) X.xe { s3 with heap := s3.heap.push { cls := .type "slice", data := .fields #[vl, vu, .none] } }
 exact tail_any (ops := [.ref s3.heap.objs.size, v]) ht hT hg (by with_unfolding_all rfl)
def Dm (xs : List V) (lo hi : Option Int) : List V := (xs.drop (HT.sIx xs.length 0 lo)).take (HT.sIx xs.length xs.length hi - HT.sIx xs.length 0 lo)
theorem ma (xs : List V) (lo hi : Option Int) : (Dm xs lo hi).length ≤ xs.length := by
 unfold Dm
 rw [List.length_take, List.length_drop]
 omega
def Pk (K : PySem.W.Frag) : V → Option Int → Option Int → Hp → VK → Prop := fun x lo hi H Q => ∃ a xs, x = .ref a ∧ SqT K H a xs ∧
 ¬ (HT.sIx xs.length 0 lo = 0 ∧ HT.sIx xs.length xs.length hi = xs.length) ∧ ∀ p, H p = none → Q (.ref p) (upd H p (.tup (Dm xs lo hi)))
theorem Wm : SlR X (Pk X.K) := by
 intro pins s σ H x v vl vu lo hi sl Q I rx hs pl pu h
 obtain ⟨a, xs, rfl, hx, hw, q⟩ := h
 cases rx
 obtain ⟨its, r, ht, hz⟩ := I.tuple hx
 have hlen : its.toArray.size = xs.length := by rw [List.size_toArray]; exact r.length.symm
 refine ⟨"tuple", _, PyProof.Rows.slot_tuple_getitem.lookup, ht.typeIs, ?_⟩
 refine HT.Wk ht hs pl pu (by rw [hlen]; exact hw) ?_ (by rw [hlen]; exact hz)
 rw [hlen]
 refine ⟨.ref s.heap.objs.size, _, I.laid (t' := s.toks) (o := .tup (Dm xs lo hi)) (fun b ob q => Heap.get?_push_of_some _ q) (Nat.le_refl _) ?_, rfl, q _ (I.hok.fresh (Nat.le_refl _))⟩
 exact ⟨Nat.le_trans (ma xs lo hi) hz, _, (r.drop (HT.sIx xs.length 0 lo)).take (HT.sIx xs.length xs.length hi - HT.sIx xs.length 0 lo), IsTup.new _ _⟩
end
end L2
namespace L2
open PySem PySem.Spec PyProof.Rows
def ixN (n : Nat) (i : Int) : Option Nat := if 0 ≤ i then (if i < n then some i.toNat else none) else if -(n : Int) ≤ i then some (i + n).toNat else none
def atI {α : Type} (xs : List α) (i : Int) : Option α := (ixN xs.length i).bind fun j => xs[j]?
theorem Pl (h : ixN n i = some j) : seqIndex? i n = some j ∧ j < n ∧ -(n : Int) ≤ i ∧ i < n := by
 unfold ixN at h
 by_cases h0 : 0 ≤ i
 · rw [if_pos h0] at h
   by_cases h1 : i < n
   · rw [if_pos h1] at h
     have e : i.toNat = j := Option.some.inj h
     exact ⟨by rw [seqIndex_of h0 h1, e], by omega, by omega, h1⟩
   · rw [if_neg h1] at h; cases h
 · rw [if_neg h0] at h
   by_cases h1 : -(n : Int) ≤ i
   · rw [if_pos h1] at h
     have e : (i + n).toNat = j := Option.some.inj h
     exact ⟨by rw [seqIndex_neg (by omega) h1, e], by omega, h1, by omega⟩
   · rw [if_neg h1] at h; cases h
theorem Ma {α : Type} {xs : List α} {i : Int} {v : α} (h : atI xs i = some v) : ∃ j, seqIndex? i xs.length = some j ∧ xs[j]? = some v ∧ j < xs.length ∧ -(xs.length : Int) ≤ i ∧ i < xs.length := by
 unfold atI at h
 cases e : ixN xs.length i with
 | none => rw [e] at h; cases h
 | some j =>
  rw [e] at h
  obtain ⟨h1, h2, h3, h4⟩ := Pl e
  exact ⟨j, h1, h, h2, h3, h4⟩
def Pm (b : Expr) : Prop := ∀ o i, subscripted b false o i = operate [o, i] (getItem o i)
def IxR (X : Cx) (r : R2) : Prop :=
 ∀ (value slice : Expr) (pins : List (Addr × Obj)) (s : Shared) (σ : St) (H : Hp) (x y : V) (v u : Value) (Q : VK), Inv X pins σ H s → RelV x v → RelV y u → r x y H Q →
  subscripted slice false v u = operate [v, u] (getItem v u) → wpAny (model X.prog X.w) X.A (subscriptTail value slice v u) (EP X pins σ Q) X.xe s
def MtR (X : Cx) (id : String) (r : V → List V → Hp → VK → Prop) : Prop :=
 ∀ (pins : List (Addr × Obj)) (s : Shared) (σ : St) (H : Hp) (x : V) (xs : List V) (v : Value) (us : List Value) (Q : VK), Inv X pins σ H s → RelV x v → Vals xs us → r x xs H Q →
  wpAny (model X.prog X.w) X.A (call (.builtin id) (v :: us)) (EP X pins σ Q) X.xe s
section
variable {X : Cx} {a b : Expr} {ta tb : TE} {pos : Pos}
theorem IxR.or (h : IxR X r) (h' : IxR X r') : IxR X (fun x y H Q => r x y H Q ∨ r' x y H Q) := by
 intro value slice pins s σ H x y v u Q I rx ry q hs
 rcases q with q | q
 · exact h value slice pins s σ H x y v u Q I rx ry q hs
 · exact h' value slice pins s σ H x y v u Q I rx ry q hs
theorem Wn (hr : IxR X r) (ha : PE X a ta) (hb : PE X b tb) (hs : Pm b) : PE X (.Subscript a b pos) (tOp r ta tb) := by
 intro pins s σ H Q I h
 exact Subscript_ (lu ha hb I h fun v u s2 x y H2 I2 rx ry q => hr a b pins s2 σ H2 x y v u Q I2 rx ry q (hs _ _))
def Pn (K : PySem.W.Frag) : R2 := fun x y H Q => ∃ p xs i v, x = .ref p ∧ y = .int i ∧ SqL K H p xs ∧ atI xs i = some v ∧ Q v H
def Po (K : PySem.W.Frag) : R2 := fun x y H Q => ∃ p xs i v, x = .ref p ∧ y = .int i ∧ SqT K H p xs ∧ atI xs i = some v ∧ Q v H
def Pp : R2 := fun x y H Q => ∃ z i c, x = .str z ∧ y = .int i ∧ z.length ≤ sizeLine ∧ atI z.cps.toList i = some c ∧ Q (.str ⟨#[c]⟩) H
theorem wo : IxR X (Pn X.K) := by
 intro value slice pins s σ H x y v u Q I rx ry h hs
 obtain ⟨p, xs, i, z, rfl, rfl, hq, he, q⟩ := h
 cases rx
 obtain ⟨t, rfl⟩ := ry
 obtain ⟨its, r, pl, hz⟩ := I.list hq
 obtain ⟨j, h1, h2, h3, h4, h5⟩ := Ma he
 obtain ⟨w, ew, rw'⟩ := r.get h2
 have hl := r.length
 have hn := fy
 have fin : EP X pins σ Q w s := ⟨z, H, I, rw', q⟩
 by_cases h0 : 0 ≤ i
 · have hj : i.toNat = j := by
    rw [seqIndex_of h0 h5] at h1
    exact Option.some.inj h1
   exact item_listR pl.isList h0 (by omega) (by rw [hj]; simpa using ew) fin hs
 · have hj : (i + (its.toArray.size : Int)).toNat = j := by
    rw [seqIndex_neg (by omega) h4] at h1
    rw [List.size_toArray, ← hl]
    exact Option.some.inj h1
   exact subscriptTail_builtinR (x := w) pl.isList.typeIs slot_list_getitem.lookup
    (wpAny_getItem_list_neg (Q := fun r s' => r = w ∧ EP X pins σ Q r s') pl.isList (by omega) (by rw [List.size_toArray] <;> omega) (by omega) (by rw [hj]; simpa using ew) ⟨rfl, fin⟩) hs
theorem Wo : IxR X (Po X.K) := by
 intro value slice pins s σ H x y v u Q I rx ry h hs
 obtain ⟨p, xs, i, z, rfl, rfl, hq, he, q⟩ := h
 cases rx
 obtain ⟨t, rfl⟩ := ry
 obtain ⟨its, r, pl, hz⟩ := I.tuple hq
 obtain ⟨j, h1, h2, h3, h4, h5⟩ := Ma he
 obtain ⟨w, ew, rw'⟩ := r.get h2
 have hl := r.length
 have hn := fy
 have fin : EP X pins σ Q w s := ⟨z, H, I, rw', q⟩
 exact subscriptTail_builtinR (x := w) pl.typeIs slot_tuple_getitem.lookup
  (getItem_tuple (j := j) (Q := fun r s' => r = w ∧ EP X pins σ Q r s') pl (by omega) (by omega) (by rw [List.size_toArray, ← hl]; exact h1) (by simpa using ew) ⟨rfl, fin⟩) hs
theorem wq : IxR X Pp := by
 intro value slice pins s σ H x y v u Q I rx ry h hs
 obtain ⟨z, i, c, rfl, rfl, hz, he, q⟩ := h
 obtain ⟨t, rfl⟩ := rx
 obtain ⟨t', rfl⟩ := ry
 obtain ⟨j, h1, h2, h3, h4, h5⟩ := Ma he
 have hl : z.cps.toList.length = z.length := by simp [Str.length]
 rw [hl] at h1 h4 h5
 have hn := fy
 exact tail_any (typeIs_str s z t) slot_str_getitem.lookup (getItem_str (c := c) (by
  have e1 : decide (i < -(2 ^ 63 : Int)) = false := decide_eq_false (by omega)
  have e2 : decide (i ≥ 2 ^ 63) = false := decide_eq_false (by omega)
  rw [e1, e2, Bool.or_false]) (by rw [h1]; simpa using h2) ⟨.str ⟨#[c]⟩, H, I.tok _, ⟨_, rfl⟩, q⟩) hs
def rIx (K : PySem.W.Frag) : R2 := fun x y H Q => Pn K x y H Q ∨ Po K x y H Q ∨ Pp x y H Q
theorem Wq : IxR X (rIx X.K) := wo.or (Wo.or wq)
theorem Ws (its : List Value) (n j : Nat) (u : Value) : Obj.mapSeq (·.setIfInBounds j u) { cls := .type "list", data := .seq its.toArray n } = { cls := .type "list", data := .seq (its.set j u).toArray n } := by
 simp [Obj.mapSeq]
theorem Inv.lst {σ : St} (I : Inv X pins σ H s) (h : H p = some (.lst xs)) :
    ∃ (its : List Value) (n : Nat), Vals xs its ∧ s.heap.get? p = some { cls := .type "list", data := .seq its.toArray n } ∧ xs.length ≤ sizeLine := by
  obtain ⟨z, its, n, r, e⟩ := I.hok p _ h
  exact ⟨its, n, r, e, z⟩
theorem Inv.lstUpd {pins : List (Addr × Obj)} {σ : St} {H : Hp} {s : Shared} {p : Addr} {xs ys : List V} {its its' : List Value} {n n' : Nat} {f : Obj → Obj} (I : Inv X pins σ H s) (h : H p = some (.lst xs))
    (ho : s.heap.get? p = some { cls := .type "list", data := .seq its.toArray n }) (hf : f { cls := .type "list", data := .seq its.toArray n } = { cls := .type "list", data := .seq its'.toArray n' }) (r : Vals ys its') (hz : ys.length ≤ sizeLine) (t : Nat) :
    Inv X pins σ (upd H p (.lst ys)) { s with heap := s.heap.update p f, toks := t } := by
  have e : (s.heap.update p f).get? p = some { cls := .type "list", data := .seq its'.toArray n' } := by
    rw [Heap.get?_update_self f ho (by rw [hf] <;> rfl), hf]
  refine I.write (x := p) (e := p) (by rw [h]; trivial) (.inl rfl) (fun b u hb q => (Heap.get?_update_other _ _ (Ne.symm hb)).trans q) ⟨_, e⟩ ?_
  exact ⟨hz, its', n', r, e⟩
def wt : V → V → V → Hp → (Hp → Prop) → Prop := fun o i v H Q => ∃ p xs k j, o = .ref p ∧ i = .int k ∧ H p = some (.lst xs) ∧ ixN xs.length k = some j ∧ Q (upd H p (.lst (xs.set j v)))
theorem set_list : Va X wt := by
 intro pins s σ H o i v ov iv u Q I ro ri rv h
 obtain ⟨p, xs, k, j, rfl, rfl, hp, hj, q⟩ := h
 cases ro
 obtain ⟨t, rfl⟩ := ri
 obtain ⟨its, n, r, ho, hz⟩ := I.lst hp
 obtain ⟨h1, h2, h3, h4⟩ := Pl hj
 have hl := r.length
 have hn := fy
 have I' : Inv X pins σ (upd H p (.lst (xs.set j v))) { s with heap := s.heap.update p (Obj.mapSeq (·.setIfInBounds j u)) } :=
  I.lstUpd hp ho (Ws its n j u) (r.set rv j) (by rw [List.length_set]; exact hz) s.toks
 by_cases h0 : 0 ≤ k
 · have hk : k.toNat = j := by
    rw [seqIndex_of h0 h4] at h1
    exact Option.some.inj h1
   exact PySem.W.ki_setAt ho h0 (by omega) (by rw [List.size_toArray, ← hl]; exact h4) (by rw [hk]; exact ⟨_, I', q⟩)
 · have hk : (k + (its.toArray.size : Int)).toNat = j := by
    rw [seqIndex_neg (by omega) h3] at h1
    rw [List.size_toArray, ← hl]
    exact Option.some.inj h1
   exact PySem.W.ki_setBack ho (by omega) (by rw [List.size_toArray, ← hl]; exact h3) (by omega) (by rw [hk]; exact ⟨_, I', q⟩)
theorem Wt (lo hi : Option Int) (n : Nat) : (sliceBounds lo hi none n).1 = ((HT.sIx n 0 lo : Nat) : Int) ∧ (sliceBounds lo hi none n).2.1 = ((HT.sIx n n hi : Nat) : Int) ∧ (sliceBounds lo hi none n).2.2 = 1 := by
 refine ⟨?_, ?_, rfl⟩
 · cases lo with
   | none => simp [sliceBounds, HT.sIx]
   | some i =>
    simp only [sliceBounds, HT.sIx, Option.getD_none, show (1 : Int) > 0 by decide, if_true]
    by_cases h : i < 0
    · simp only [h, if_true] <;> omega
    · simp only [h, if_false] <;> omega
 · cases hi with
   | none => simp [sliceBounds, HT.sIx]
   | some i =>
    simp only [sliceBounds, HT.sIx, Option.getD_none, show (1 : Int) > 0 by decide, if_true]
    by_cases h : i < 0
    · simp only [h, if_true] <;> omega
    · simp only [h, if_false] <;> omega
theorem wu (its : List Value) (lo hi : Option Int) : slicePick its.toArray lo hi none = ((its.drop (HT.sIx its.length 0 lo)).take (HT.sIx its.length its.length hi - HT.sIx its.length 0 lo)).toArray := by
 obtain ⟨h1, h2, h3⟩ := Wt lo hi its.toArray.size
 unfold slicePick
 rw [h1, h2, h3]
 simp only [sliceRange_one, pick_run, List.size_toArray] <;> rfl
def jk (K : PySem.W.Frag) : V → Option Int → Option Int → Hp → VK → Prop := fun x lo hi H Q => ∃ a xs, x = .ref a ∧ SqL K H a xs ∧ ∀ p, H p = none → Q (.ref p) (upd H p (.lst (Dm xs lo hi)))
theorem pq : SlR X (jk X.K) := by
 intro pins s σ H x v vl vu lo hi sl Q I rx hs pl pu h
 obtain ⟨a, xs, rfl, hx, q⟩ := h
 cases rx
 obtain ⟨its, r, ht, hz⟩ := I.list hx
 have hlen := r.length
 refine ⟨"list", _, slot_list_getitem.lookup, ht.isList.typeIs, ?_⟩
 refine wpAny_getItem_list_slice ht.isList hs pl pu .none (by simp) ?_ (by rw [List.size_toArray] <;> omega)
 rw [wu, ← hlen]
 refine ⟨.ref s.heap.objs.size, _, I.laid (t' := s.toks) (o := .lst (Dm xs lo hi)) (fun b ob q => Heap.get?_push_of_some _ q) (Nat.le_refl _) ?_, rfl, q _ (I.hok.fresh (Nat.le_refl _))⟩
 exact ⟨Nat.le_trans (ma xs lo hi) hz, _, 0, (r.drop (HT.sIx xs.length 0 lo)).take (HT.sIx xs.length xs.length hi - HT.sIx xs.length 0 lo), Heap.get?_push_size _ rfl⟩
noncomputable def eqV : V → V → Bool
 | .non, .non => true
 | .bl a, .bl b => a == b
 | .bl a, .int b => (if a then 1 else 0) == b
 | .int a, .bl b => a == (if b then 1 else 0)
 | .int a, .int b => a == b
 | .str a, .str b => a == b
 | _, _ => false
theorem Wu : cz X (.builtin "len") (fun xs H Q => ∃ p ys, xs = [.ref p] ∧ (SqL X.K H p ys ∨ SqT X.K H p ys) ∧ Q (.int ys.length) H) := by
 intro pins s σ H xs us Q I r h
 obtain ⟨p, ys, rfl, hq, q⟩ := h
 obtain ⟨u, rfl, rx⟩ := vals1 r
 cases rx
 have hn := fy
 rcases hq with hq | hq
 · obtain ⟨its, r', pl, hz⟩ := I.list hq
   have hlen := r'.length
   exact Calls.call_len_list pl.isList (by simp only [List.size_toArray] <;> omega) ⟨.int ys.length, H, I.tok _, ⟨s.toks + 1, by rw [List.size_toArray, hlen]⟩, q⟩
 · obtain ⟨its, r', pl, hz⟩ := I.tuple hq
   have hlen := r'.length
   exact len_tuple pl (by simp only [List.size_toArray] <;> omega) ⟨.int ys.length, H, I.tok _, ⟨s.toks + 1, by rw [List.size_toArray, hlen]⟩, q⟩
theorem Wv : cz X (.builtin "len") (fun xs H Q => ∃ z, xs = [.str z] ∧ z.length ≤ sizeLine ∧ Q (.int z.length) H) := by
 intro pins s σ H xs us Q I r h
 obtain ⟨z, rfl, hz, q⟩ := h
 obtain ⟨u, rfl, t, rfl⟩ := vals1 r
 have hn := fy
 exact len_str (by omega) ⟨.int z.length, H, I.tok _, ⟨_, rfl⟩, q⟩
theorem cz.or (h : cz X f r) (h' : cz X f r') : cz X f (fun xs H Q => r xs H Q ∨ r' xs H Q) := by
 intro pins s σ H xs us Q I rs q
 rcases q with q | q
 · exact h pins s σ H xs us Q I rs q
 · exact h' pins s σ H xs us Q I rs q
theorem Ww : cz X (.type "list") (fun xs H Q => ∃ p ys, xs = [.ref p] ∧ (SqL X.K H p ys ∨ SqT X.K H p ys) ∧ ∀ l, H l = none → Q (.ref l) (upd H l (.lst ys))) := by
  intro pins s σ H xs us Q I r h
  obtain ⟨p, ys, rfl, hq, q⟩ := h
  obtain ⟨u, rfl, rx⟩ := vals1 r
  cases rx
  have fin : ∀ (its : List Value), Vals ys its → ys.length ≤ sizeLine → ∀ (h' : Heap) (c' : Nat), (∀ b o', s.heap.get? b = some o' → h'.get? b = some o') →
      h'.get? s.heap.objs.size = some { cls := .type "list", dict := none, data := .seq its.toArray c', slots := #[] } → EP X pins σ Q (.ref s.heap.objs.size) { s with heap := h' } := fun its r' hz h' c' kp e =>
    ⟨.ref s.heap.objs.size, _, I.laid (t' := s.toks) kp (Nat.le_refl _) (show bg X.prog X.w _ h' _ (.lst ys) from ⟨hz, its, c', r', e⟩), rfl, q _ (I.hok.fresh (Nat.le_refl _))⟩
  rcases hq with hq | hq
  · obtain ⟨its, r', pl, hz⟩ := I.list hq
    have hlen := r'.length
    obtain ⟨o, ho, hc, n, hd⟩ := pl.isList
    exact call_list_seq p (.inl rfl) ho hc hd (fun h' c' kp e => fin its r' hz h' c' kp e) (by simp only [List.size_toArray] <;> omega)
  · obtain ⟨its, r', pl, hz⟩ := I.tuple hq
    have hlen := r'.length
    obtain ⟨o, ho, hc, n, hd⟩ := pl
    exact call_list_seq p (.inr rfl) ho hc hd (fun h' c' kp e => fin its r' hz h' c' kp e) (by simp only [List.size_toArray] <;> omega)
theorem wx : cz X (.type "tuple") (fun xs H Q => ∃ p ys, xs = [.ref p] ∧ ((SqL X.K H p ys ∧ ∀ l, H l = none → Q (.ref l) (upd H l (.tup ys))) ∨ (SqT X.K H p ys ∧ Q (.ref p) H))) := by
 intro pins s σ H xs us Q I r h
 obtain ⟨p, ys, rfl, h⟩ := h
 obtain ⟨u, rfl, rx⟩ := vals1 r
 cases rx
 rcases h with ⟨hq, q⟩ | ⟨hq, q⟩
 · obtain ⟨its, r', pl, hz⟩ := I.list hq
   have hlen := r'.length
   refine call_tuple_list pl.isList (fun h' kp => ?_) (by simp only [List.size_toArray] <;> omega)
   have I1 : Inv X pins σ H { s with heap := h' } := I.kept (t' := s.toks) kp
   have I2 : Inv X pins σ (upd H h'.objs.size (.tup ys)) { s with heap := h'.push { cls := .type "tuple", data := .seq its.toArray } } :=
    I1.laid (t' := s.toks) (fun b o e => Heap.get?_push_of_some _ e) (Nat.le_refl _) (show bg X.prog X.w _ _ _ (.tup ys) from ⟨hz, its, r', IsTup.new _ _⟩)
   exact ⟨.ref h'.objs.size, _, I2, rfl, q _ (I1.hok.fresh (Nat.le_refl _))⟩
 · obtain ⟨its, r', pl, hz⟩ := I.tuple hq
   exact call_tuple_same pl ⟨.ref p, H, I, rfl, q⟩
def tyV (K : PySem.W.Frag) (T : String) (x : V) (H : Hp) : Prop := match x with
  | .str _ => T = "str"
  | .int _ => T = "int"
  | .ref p => (T = "list" ∧ ∃ xs, SqL K H p xs) ∨ (T = "tuple" ∧ ∃ o, K.lookup p = some o ∧ o.cls = .type "tuple" ∧ o.dict = none) ∨
      (T = "dict" ∧ ((∃ kvs, H p = some (.dK kvs)) ∨ ∃ kvs, H p = some (.dT kvs))) ∨ (T = "set" ∧ ∃ S n, H p = some (.set S n))
  | _ => False
theorem Pq {σ : St} (I : Inv X pins σ H s) (r : RelV x v) (ty : tyV X.K T x H) :
    s.TypeIs v T ∧ ∀ a, v = .ref a → ∃ ob, s.heap.get? a = some ob ∧ ob.dict = none := by
  cases x with
  | str z =>
    obtain ⟨t, rfl⟩ := r
    cases (show T = "str" from ty)
    exact ⟨typeIs_str s z t, fun _ e => nomatch e⟩
  | int i =>
    obtain ⟨t, rfl⟩ := r
    cases (show T = "int" from ty)
    exact ⟨typeIs_int s i t, fun _ e => nomatch e⟩
  | ref p =>
    cases r
    rcases ty with ⟨rfl, xs, hq⟩ | ⟨rfl, o, hk, hc, hd⟩ | ⟨rfl, hk⟩ | ⟨rfl, S, n, hk⟩
    · obtain ⟨its, _, pl, _⟩ := I.list hq
      refine ⟨pl.isList.typeIs, fun a e => ?_⟩
      cases e
      obtain ⟨o, n, e, c, hd, _⟩ := pl
      exact ⟨o, e, hd⟩
    · refine ⟨⟨o, I.kIn p o hk, hc⟩, fun a e => ?_⟩
      cases e
      exact ⟨o, I.kIn _ o hk, hd⟩
    · have z : ∃ o, s.heap.get? p = some o ∧ o.ExactDict := by
        rcases hk with ⟨kvs, hk⟩ | ⟨kvs, hk⟩
        · obtain ⟨_, _, _, _, o, _, _, e, ex, _⟩ := I.hok p _ hk
          exact ⟨o, e, ex⟩
        · obtain ⟨_, _, _, _, o, _, _, e, ex, _⟩ := I.hok p _ hk
          exact ⟨o, e, ex⟩
      obtain ⟨o, e, ex⟩ := z
      refine ⟨⟨o, e, ex.1⟩, fun a e2 => ?_⟩
      cases e2
      exact ⟨o, e, ex.2.1⟩
    · obtain ⟨o, _, _, _, e, ex, _⟩ := I.hok p _ hk
      refine ⟨⟨o, e, ex.1⟩, fun a e2 => ?_⟩
      cases e2
      exact ⟨o, e, ex.2.1⟩
  | _ => exact False.elim ty
def Wx (K : PySem.W.Frag) (T : String) (r : V → List V → Hp → VK → Prop) (to : TE) : TE := fun σ H Q => to σ H fun x H1 => tyV K T x H1 ∧ r x [] H1 Q
def tBM (K : PySem.W.Frag) (T : String) (r : V → List V → Hp → VK → Prop) (to : TE) (t : TA) : TE := fun σ H Q => to σ H fun x H1 => tyV K T x H1 ∧ t σ H1 fun xs H2 => r x xs H2 Q
variable {o e : Expr} {es : List Expr} {to : TE} {t : TA} {name : Str} {apos cpos : Pos} {T id : String} {r : V → List V → Hp → VK → Prop}
theorem Wy (pa : PlainAttrs T) (slot : Slot T name id) (hty : typeOf (.builtin id) = pure (.type "method_descriptor")) (hm : MtR X id r) (ho : PE X o to)
    (hbase : attributeBase o name X.env (eval o X.env) = eval o X.env := by rfl) (hline : (apos.endLine == cpos.line) = true := by rfl) : PE X (.Call (.Attribute o name apos) [] [] cpos) (Wx X.K T r to) := by
  intro pins s σ H Q I h
  refine wpAny_Call_method0_late hbase hline (thn (ho pins s σ H _ I h) fun v s1 ⟨x, H1, I1, r1, ty, q1⟩ => ?_)
  obtain ⟨h1, h2⟩ := Pq I1 r1 ty
  exact ⟨T, id, pa, slot, hty, h1, h2, Calls.callWith_builtin rfl (PySem.evalArgs_none (hm pins s1 σ H1 x [] v [] Q I1 r1 .nil q1))⟩
theorem Pt (pa : PlainAttrs T) (slot : Slot T name id) (hty : typeOf (.builtin id) = pure (.type "method_descriptor")) (hm : MtR X id r) (ho : PE X o to) (ha : PA X (e :: es) t)
    (hbase : attributeBase o name X.env (eval o X.env) = eval o X.env := by rfl)
    (hfew : ((backTo cpos (starEach (e :: es) X.env)).all (fun x => !x.1) && (backToKw cpos (keywordEach [] X.env)).all (fun x => x.1.isSome)
      && decide ((e :: es).length + ([] : List Keyword).length + (if ([] : List Keyword).isEmpty then 0 else 1) < 30)) = true := by rfl)
    (hline : (apos.endLine == cpos.line) = true := by rfl) (hs : starEach (e :: es) X.env = (false, eval e X.env) :: starEach es X.env := by rfl) (hplain : (backTo cpos (starEach es X.env)).any (·.1) = false := by rfl) :
    PE X (.Call (.Attribute o name apos) (e :: es) [] cpos) (tBM X.K T r to t) := by
  intro pins s σ H Q I h
  refine wpAny_Call_method_late hbase hfew hline rfl (thn (ho pins s σ H _ I h) fun v s1 ⟨x, H1, I1, r1, ty, q1⟩ => ?_)
  obtain ⟨h1, h2⟩ := Pq I1 r1 ty
  refine ⟨T, id, pa, slot, hty, h1, h2, ?_⟩
  have hA := ha cpos pins s1 σ H1 _ I1 q1
  rw [hs] at hA ⊢
  refine Calls.callWith_builtin (by show (false || (backTo cpos (starEach es X.env)).any (·.1)) = false; rw [hplain] <;> rfl) (Calls.evalArgs_plain ?_)
  exact thn hA fun us s2 ⟨vs, H2, I2, r2, q2⟩ => hm pins s2 σ H2 x vs v us Q I2 r1 r2 q2
end
end L2
namespace L2
open PySem PySem.Spec PyProof.Rows
def MtM (X : Cx) (id : String) (r : V → List V → Hp → VK → Prop) : Prop :=
 ∀ (pins : List (Addr × Obj)) (s : Shared) (σ : St) (H : Hp) (x : V) (xs : List V) (v : Value) (us : List Value) (Q : VK), Inv X pins σ H s → RelV x v → Vals xs us → r x xs H Q →
  wpAny (model X.prog X.w) X.A (call (.builtin id) (v :: us)) (EP X pins σ Q) X.xe s
theorem Vals.one : ∀ {x : V} {us : List Value}, Vals [x] us → ∃ u, us = [u] ∧ RelV x u
 | _, _, .cons r .nil => ⟨_, rfl, r⟩
theorem Vals.rep (h : Vals xs us) : ∀ k : Nat, Vals (List.replicate k xs).flatten (List.replicate k us).flatten
 | 0 => .nil
 | k + 1 => by
  rw [List.replicate_succ, List.replicate_succ, List.flatten_cons, List.flatten_cons]
  exact Vals.append h (Vals.rep h k)
theorem foldl_rep (its : List Value) : ∀ (k : Nat) (acc : List Value),
    List.foldl (fun x1 x2 => x1 ++ x2) acc.toArray (List.replicate k its.toArray) = (acc ++ (List.replicate k its).flatten).toArray
  | 0, acc => by simp
  | k + 1, acc => by
    have e : acc.toArray ++ its.toArray = (acc ++ its).toArray := by simp
    have e2 : (acc ++ its) ++ (List.replicate k its).flatten = acc ++ (List.replicate (k + 1) its).flatten := by
      rw [List.replicate_succ, List.flatten_cons, List.append_assoc]
    rw [← e2, ← foldl_rep its k (acc ++ its), ← e, List.replicate_succ, List.foldl_cons]
section
variable {X : Cx} {pins : List (Addr × Obj)} {σ : St} {H : Hp} {s : Shared} {l b : Addr} {xs ys zs : List V}
theorem Inv.lset {its its' : List Value} {n : Nat} {f : Array Value → Array Value} {t' : Nat} (I : Inv X pins σ H s) (hH : H l = some (.lst xs))
    (e : s.heap.get? l = some { cls := .type "list", data := .seq its.toArray n }) (hf : f its.toArray = its'.toArray) (hv : Vals ys its') (hz : ys.length ≤ sizeLine) :
    Inv X pins σ (upd H l (.lst ys)) { s with heap := s.heap.update l (Obj.mapSeq f), toks := t' } := by
  have q := PySem.IsL.update e f
  rw [hf] at q
  refine I.write (x := l) (e := l) (by rw [hH]; exact trivial) (.inl rfl) (fun b' u hb hu => (Heap.get?_update_other s.heap (Obj.mapSeq f) (Ne.symm hb)).trans hu) ⟨_, q⟩ ?_
  exact ⟨hz, its', _, hv, q⟩
theorem Inv.lnew (I : Inv X pins σ H s) (hv : Vals ys its) (hz : ys.length ≤ sizeLine) :
    Inv X pins σ (upd H s.heap.objs.size (.lst ys)) { s with heap := s.heap.push { cls := .type "list", data := .seq its.toArray }, toks := t' } :=
  I.laid (fun _ _ q => Heap.get?_push_of_some _ q) (Nat.le_refl _) ⟨hz, its, 0, hv, Heap.get?_push_size _ rfl⟩
theorem Inv.fresh (I : Inv X pins σ H s) : H s.heap.objs.size = none := I.hok.fresh (Nat.le_refl _)
theorem Inv.lstM (I : Inv X pins σ H s) (hH : H l = some (.lst xs)) : xs.length ≤ sizeLine ∧ ∃ (its : List Value) (n : Nat), Vals xs its ∧ xs.length = its.length ∧ s.heap.get? l = some { cls := .type "list", data := .seq its.toArray n } := by
 obtain ⟨z, its, n, r, e⟩ := I.hok l _ hH
 exact ⟨z, its, n, r, r.length, e⟩
theorem wz (h : n ≤ sizeLine) : Builtin.List.listTooLong n = false := by
 unfold Builtin.List.listTooLong
 exact decide_eq_false (by omega)
end
section
variable {X : Cx}
def xa : V → List V → Hp → VK → Prop := fun x vs H Q => ∃ l xs y, x = .ref l ∧ vs = [y] ∧ H l = some (.lst xs) ∧ xs.length < sizeLine ∧ Q .non (upd H l (.lst (xs ++ [y])))
theorem Pu : MtM X "list.append" xa := by
 intro pins s σ H x vs v us Q I rx rv h
 obtain ⟨l, xs, y, rfl, rfl, hH, hz, q⟩ := h
 cases rx
 obtain ⟨u, rfl, ru⟩ := rv.one
 obtain ⟨z, its, n, r, hl, e⟩ := I.lstM hH
 refine call_meets F.slot_list_append ⟨_, e, rfl⟩ F.entry_list_append (F.args_list_append_2 _ _) (PySem.list_append l its.toArray n u (by rw [List.size_toArray]; omega)) ⟨e, ?_⟩
 refine ⟨.non, _, I.lset (its' := its ++ [u]) hH e (by simp) (r.append (.cons ru .nil)) ?_, rfl, q⟩
 rw [List.length_append, List.length_singleton]
 omega
def Xa : R2 := fun x y H Q => ∃ l b xs zs, x = .ref l ∧ y = .ref b ∧ H l = some (.lst xs) ∧ H b = some (.lst zs) ∧ xs.length + zs.length ≤ sizeLine ∧ ∀ p, H p = none → Q (.ref p) (upd H p (.lst (xs ++ zs)))
theorem xb : OpR X (binaryOp .Add) Xa := by
 intro pins s σ H x y v u Q I rx ry h
 obtain ⟨l, b, xs, zs, rfl, rfl, hH, hB, hz, q⟩ := h
 cases rx
 cases ry
 obtain ⟨z, its, n, r, hl, e⟩ := I.lstM hH
 obtain ⟨z2, its2, n2, r2, hl2, e2⟩ := I.lstM hB
 refine PySem.P.add_list e e2 ?_ (by rw [List.size_toArray, List.size_toArray]; omega)
 have ea : its.toArray ++ its2.toArray = (its ++ its2).toArray := by simp
 rw [ea]
 exact ⟨.ref _, _, I.lnew (t' := s.toks) (r.append r2) (by rw [List.length_append]; omega), rfl, q _ I.fresh⟩
def Xb : R2 := fun x y H Q => ∃ l k xs, x = .ref l ∧ y = .int k ∧ H l = some (.lst xs) ∧ -(2 ^ 63) ≤ k ∧ k < 2 ^ 63 ∧ xs.length * k.toNat ≤ sizeLine ∧
 ∀ p, H p = none → Q (.ref p) (upd H p (.lst (List.replicate k.toNat xs).flatten))
theorem len_rep {α : Type} (xs : List α) (k : Nat) : (List.replicate k xs).flatten.length = k * xs.length := by
 induction k with
 | zero => simp
 | succ k ih => rw [List.replicate_succ, List.flatten_cons, List.length_append, ih, Nat.succ_mul, Nat.add_comm]
theorem xc : OpR X (binaryOp .Mult) Xb := by
 intro pins s σ H x y v u Q I rx ry h
 obtain ⟨l, k, xs, rfl, rfl, hH, h1, h2, hz, q⟩ := h
 cases rx
 obtain ⟨t, rfl⟩ := ry
 obtain ⟨z, its, n, r, hl, e⟩ := I.lstM hH
 have hlen : its.toArray.size * k.toNat ≤ sizeLine := by rw [List.size_toArray, ← hl]; exact hz
 have hcap : ¬ its.toArray.size * k.toNat > (2 ^ 63 - 1) / 8 := by
  have : (sizeLine : Nat) ≤ (2 ^ 63 - 1) / 8 := by decide
  omega
 have hfit : ¬ (!Builtin.List.listFitsIndex k) = true := by
  rw [fitsIndex_both h1 h2]
  exact Bool.false_ne_true
 have hlong : ¬ Builtin.List.listTooLong (its.toArray.size * k.toNat) = true := by
  rw [wz hlen]
  exact Bool.false_ne_true
 have hnew : List.foldl (fun x1 x2 => x1 ++ x2) #[] (List.replicate (if its.toArray.isEmpty = true then 0 else k.toNat) its.toArray) = (List.replicate k.toNat its).flatten.toArray := by
  have f0 : ∀ m : Nat, List.foldl (fun x1 x2 => x1 ++ x2) #[] (List.replicate m its.toArray) = (List.replicate m its).flatten.toArray := fun m => by
   have := foldl_rep its m []
   rw [List.nil_append] at this
   exact this
  rw [f0]
  cases its with
  | nil => simp
  | cons a r' => rw [if_neg (by simp)]
 refine wpAny_binaryOp_repeat_ref (T := "list") (U := "int") (by decide) ⟨_, e, rfl⟩ (fun s' => typeIs_int s' k t) noFill_list_mul F.fills_int_mul F.slot_int_rmul repeat_list F.slot_int_index.lookup
  (call_meets F.slot_int_rmul (typeIs_int s k t) F.entry_int_rmul (F.args_int_rmul_2 _ _) (int___rmul___int_list k t l its.toArray n)
   ⟨e, rfl, ⟨_, e, rfl⟩, call_meets F.slot_list_mul ⟨_, e, rfl⟩ F.entry_list_mul (F.args_list_mul_2 _ _) (AutoListH.list___mul___list_int_3 l its.toArray n k t hfit hcap hlong) ⟨e, ?_⟩⟩)
 rw [hnew]
 exact ⟨.ref _, _, I.lnew (t' := s.toks) (r.rep k.toNat) (by rw [len_rep, Nat.mul_comm]; exact hz), rfl, q _ I.fresh⟩
end
section
variable {prog : Program} {w : World} {A : Around} {E : Value → Shared → Prop} {s : Shared}
end
section
variable {X : Cx}
end
end L2
namespace L2
open PySem PySem.Spec PyProof.Rows
section
variable {κ : Type} [DecidableEq κ]
def Cd (kvs : List (κ × V)) (k : κ) : Option V := (kvs.find? fun kv => decide (kv.1 = k)).map (·.2)
def putK (kvs : List (κ × V)) (k : κ) (v : V) : List (κ × V) :=
 if (kvs.any fun kv => decide (kv.1 = k)) = true then kvs.map (fun kv => if kv.1 = k then (kv.1, v) else kv) else kvs ++ [(k, v)]
def Pw (kvs : List (κ × V)) (k : κ) : List (κ × V) := kvs.filter fun kv => decide (kv.1 ≠ k)
theorem Mb {p : κ × V} {r : List (κ × V)} {k : κ} (e : p.1 = k) : Cd (p :: r) k = some p.2 := by simp [Cd, List.find?_cons, e]
theorem Mc {p : κ × V} {r : List (κ × V)} {k : κ} (e : ¬ p.1 = k) : Cd (p :: r) k = Cd r k := by simp [Cd, List.find?_cons, e]
theorem px (k : κ) : ∀ kvs : List (κ × V), (kvs.any fun kv => decide (kv.1 = k)) = (Cd kvs k).isSome
 | [] => rfl
 | p :: r => by
  rw [List.any_cons]
  by_cases e : p.1 = k
  · simp only [Mb e, decide_eq_true e, Bool.true_or, Option.isSome_some]
  · rw [Mc e, decide_eq_false e, Bool.false_or]; exact px k r
theorem Jk (kvs : List (κ × V)) (k : κ) (v : V) : (putK kvs k v).length ≤ kvs.length + 1 := by
 unfold putK
 split
 · rw [List.length_map]; omega
 · rw [List.length_append, List.length_cons, List.length_nil]; omega
theorem Df.isSome_eq (r : Df o u) : o.isSome = u.isSome := by
 cases o with
 | none => cases u with
  | none => rfl
  | some _ => exact (show False from r).elim
 | some _ => cases u with
  | none => exact (show False from r).elim
  | some _ => rfl
theorem KV.val {kvs : List (κ × V)} {vs : List (κ × Value)} (r : KV kvs vs) (k : κ) : Df (Cd kvs k) (valueAt vs k) := by
 unfold KV at r
 induction r with
 | nil => exact True.intro
 | @cons p q ps qs h t ih =>
  obtain ⟨h1, h2⟩ := h
  by_cases e : p.1 = k
  · have e' : q.1 = k := h1.symm.trans e
    have b : valueAt (q :: qs) k = some q.2 := by simp [valueAt, List.find?_cons, e']
    rw [Mb e, b]; exact h2
  · have e' : ¬ q.1 = k := fun z => e (h1.trans z)
    have b : valueAt (q :: qs) k = valueAt qs k := by simp [valueAt, List.find?_cons, e']
    rw [Mc e, b]; exact ih
theorem KV.any (r : KV kvs vs) (k : κ) : (kvs.any fun kv => decide (kv.1 = k)) = vs.any fun kv => decide (kv.1 = k) := by
 unfold KV at r
 induction r with
 | nil => rfl
 | cons h t ih => rw [List.any_cons, List.any_cons, ih, h.1]
theorem KV.repl (r : KV kvs vs) (k : κ) (ry : RelV y u) :
    KV (kvs.map fun kv => if kv.1 = k then (kv.1, y) else kv) (vs.map fun kv => if kv.1 = k then (kv.1, u) else kv) := by
  unfold KV at r ⊢
  induction r with
  | nil => exact .nil
  | @cons p q ps qs h t ih =>
    rw [List.map_cons, List.map_cons]
    refine .cons ?_ ih
    obtain ⟨h1, h2⟩ := h
    by_cases e : p.1 = k
    · rw [if_pos e, if_pos (h1.symm.trans e)]; exact ⟨h1, ry⟩
    · rw [if_neg e, if_neg (fun z => e (h1.trans z))]; exact ⟨h1, h2⟩
theorem KV.put (r : KV kvs vs) (k : κ) (ry : RelV y u) : KV (putK kvs k y) (stored vs k u) := by
 unfold putK stored
 rw [r.any k]
 by_cases e : (vs.any fun kv => decide (kv.1 = k)) = true
 · rw [if_pos e, if_pos e]; exact r.repl k ry
 · rw [if_neg e, if_neg e]; exact Paired.snoc r ⟨rfl, ry⟩
theorem KV.drop (r : KV kvs vs) (k : κ) : KV (Pw kvs k) (without vs k) := by
 unfold KV at r ⊢
 unfold Pw without
 induction r with
 | nil => exact .nil
 | @cons p q ps qs h t ih =>
  obtain ⟨h1, h2⟩ := h
  rw [List.filter_cons, List.filter_cons]
  by_cases e : p.1 = k
  · have a : ¬ decide (p.1 ≠ k) = true := by simp [e]
    have b : ¬ decide (q.1 ≠ k) = true := by simp [h1.symm.trans e]
    rw [if_neg a, if_neg b]; exact ih
  · have e' : ¬ q.1 = k := fun z => e (h1.trans z)
    have a : decide (p.1 ≠ k) = true := by simp [e]
    have b : decide (q.1 ≠ k) = true := by simp [e']
    rw [if_pos a, if_pos b]; exact .cons ⟨h1, h2⟩ ih
theorem KV.length {kvs : List (κ × V)} {vs : List (κ × Value)} (r : KV kvs vs) : kvs.length = vs.length := Paired.length r
end
theorem Fy (r : RelV (kV k) u) : (Ck P w).is k u = true := by
 cases k with
 | inl i => obtain ⟨t, e⟩ := (show ∃ t, u = Value.int i t from r); subst e; exact ug P w i t
 | inr x => obtain ⟨t, e⟩ := (show ∃ t, u = Value.str x t from r); subst e; exact Ug P w x t
theorem Px : ∀ {ks : List Key} {us : List Value}, Vals (ks.map kV) us → ItemsAre (Ck P w) ks us
 | [], _, r => by rw [List.map_nil] at r; cases r; exact .nil
 | k :: ks, _, r => by
  rw [List.map_cons] at r
  cases r with
  | cons h t => exact .cons (Fy h) (Px t)
abbrev KT (H : Hp) : List (List Key × V) → List (List Key × Addr × Value) → Prop := Paired fun p q => p.1 = q.1 ∧ H q.2.1 = some (.tup (p.1.map kV)) ∧ RelV p.2 q.2.2
theorem KT.val {H : Hp} {kvs : List (List Key × V)} {xs : List (List Key × Addr × Value)} (r : KT H kvs xs) (k : List Key) : Df (Cd kvs k) ((atKey xs k).map (·.2)) := by
 induction r with
 | nil => exact True.intro
 | @cons p q ps qs h t ih =>
  obtain ⟨h1, _, h2⟩ := h
  by_cases e : p.1 = k
  · have e' : q.1 = k := h1.symm.trans e
    have b : atKey (q :: qs) k = some q.2 := by simp [atKey, List.find?_cons, e']
    rw [Mb e, b]; exact h2
  · have e' : ¬ q.1 = k := fun z => e (h1.trans z)
    have b : atKey (q :: qs) k = atKey qs k := by simp [atKey, List.find?_cons, e']
    rw [Mc e, b]; exact ih
theorem KT.repl (r : KT H kvs xs) (k : List Key) (ry : RelV y u) :
    KT H (kvs.map fun kv => if kv.1 = k then (kv.1, y) else kv) (xs.map (putAt k u)) := by
  induction r with
  | nil => exact .nil
  | @cons p q ps qs h t ih =>
    rw [List.map_cons, List.map_cons]
    refine .cons ?_ ih
    obtain ⟨h1, h2, h3⟩ := h
    unfold putAt
    by_cases e : p.1 = k
    · rw [if_pos e, if_pos (h1.symm.trans e)]; exact ⟨h1, h2, ry⟩
    · rw [if_neg e, if_neg (fun z => e (h1.trans z))]; exact ⟨h1, h2, h3⟩
theorem KT.put (r : KT H kvs xs) (k : List Key) (hb : H b = some (.tup (k.map kV))) (ry : RelV y u) :
    KT H (putK kvs k y) (storedH xs k b u) := by
  have e : (kvs.any fun kv => decide (kv.1 = k)) = (atKey xs k).isSome := by
    rw [px, (r.val k).isSome_eq, Option.isSome_map]
  unfold putK storedH
  rw [e]
  by_cases q : (atKey xs k).isSome = true
  · rw [if_pos q, if_pos q]; exact r.repl k ry
  · rw [if_neg q, if_neg q]; exact Paired.snoc r ⟨rfl, hb, ry⟩
theorem KT.keeps (r : KT H kvs xs) (ht : ∀ b ys, H b = some (.tup ys) → H' b = some (.tup ys)) : KT H' kvs xs :=
 Paired.mapP r fun _ _ z => ⟨z.1, ht _ _ z.2.1, z.2.2⟩
section
variable {P : Program} {w : World} {H : Hp} {h : Heap} {a : Addr}
theorem Py (ok : HOk P w H h) (e : Rd H a u) : bg P w H h a u := e.ok ok
theorem Hu (ok : HOk P w H h) (e : Rd H a (.dK kvs)) : kvs.length ≤ sizeLine ∧ (a == sysModules) = false ∧ ∃ vs, KV kvs vs ∧ h.DictOf (Ck P w) a vs :=
 show bg P w H h a (.dK kvs) from Py ok e
theorem jl (ok : HOk P w H h) (e : H a = some (.dK kvs)) : kvs.length ≤ sizeLine ∧ (a == sysModules) = false ∧ ∃ vs, KV kvs vs ∧ h.DictOf (Ck P w) a vs := Hu ok (.inl e)
theorem Hv (ok : HOk P w H h) (e : H a = some (.tup (ks.map kV))) : (tupleKind (Ck P w)).is h ks a := by
 obtain ⟨_, its, r, o, h1, h2, n, h3⟩ := (show bg P w H h a (.tup (ks.map kV)) from ok a _ e)
 exact ⟨o, its.toArray, n, h1, h2, h3, by simpa using Px r⟩
theorem Hw (ok : HOk P w H h) (e : Rd H a (.dT kvs)) : kvs.length ≤ sizeLine ∧ (a == sysModules) = false ∧
    ∃ xs, KT H kvs xs ∧ h.DictOfH (tupleKind (Ck P w)) a xs := by
  obtain ⟨z, y, xs, r, o, es, ep, h1, h2, h3, h4, h5⟩ := (show bg P w H h a (.dT kvs) from Py ok e)
  refine ⟨z, y, xs, r, o, es, ep, h1, h2, h3, h4, fun x hx => ?_, h5⟩
  have all : ∀ {l : List (List Key × V)} {m : List (List Key × Addr × Value)}, KT H l m → ∀ x ∈ m, (tupleKind (Ck P w)).is h x.1 x.2.1 := by
    intro l m q
    induction q with
    | nil => intro x hx; exact nomatch hx
    | @cons p q ps qs hq t ih =>
      intro x hx
      rcases List.mem_cons.mp hx with e | hx
      · subst e
        exact Hv ok (by rw [← hq.1]; exact hq.2.1)
      · exact ih x hx
  exact all r x hx
theorem Xc (ok : HOk P w H h) (e : H a = some (.dT kvs)) : kvs.length ≤ sizeLine ∧ (a == sysModules) = false ∧
    ∃ xs, KT H kvs xs ∧ h.DictOfH (tupleKind (Ck P w)) a xs := Hw ok (.inl e)
end
def dn (H : Hp) (a : Addr) (y : V) (r : Option V) : Prop :=
 (∃ kvs k, Rd H a (.dK kvs) ∧ y = kV k ∧ r = Cd kvs k) ∨ ∃ kvs k b, Rd H a (.dT kvs) ∧ y = .ref b ∧ H b = some (.tup (k.map kV)) ∧ r = Cd kvs k
def gp (H : Hp) (a : Addr) (y v : V) (H' : Hp) : Prop :=
 (∃ kvs k, H a = some (.dK kvs) ∧ y = kV k ∧ kvs.length < sizeLine ∧ H' = upd H a (.dK (putK kvs k v))) ∨
 ∃ kvs k b, H a = some (.dT kvs) ∧ y = .ref b ∧ H b = some (.tup (k.map kV)) ∧ kvs.length < sizeLine ∧ H' = upd H a (.dT (putK kvs k v))
theorem dn.k {H : Hp} {a : Addr} {kvs : List (Key × V)} {k : Key} (e : H a = some (.dK kvs)) : dn H a (kV k) (Cd kvs k) := .inl ⟨kvs, k, .inl e, rfl, rfl⟩
theorem dn.t {H : Hp} {a b : Addr} {kvs : List (List Key × V)} {k : List Key} (e : H a = some (.dT kvs)) (eb : H b = some (.tup (k.map kV))) : dn H a (.ref b) (Cd kvs k) := .inr ⟨kvs, k, b, .inl e, rfl, eb, rfl⟩
theorem gp.k {H : Hp} {a : Addr} {kvs : List (Key × V)} {k : Key} {v : V} (e : H a = some (.dK kvs)) (hl : kvs.length < sizeLine) : gp H a (kV k) v (upd H a (.dK (putK kvs k v))) := .inl ⟨kvs, k, e, rfl, hl, rfl⟩
theorem gp.t {H : Hp} {a b : Addr} {kvs : List (List Key × V)} {k : List Key} {v : V} (e : H a = some (.dT kvs)) (eb : H b = some (.tup (k.map kV))) (hl : kvs.length < sizeLine) :
    gp H a (.ref b) v (upd H a (.dT (putK kvs k v))) := .inr ⟨kvs, k, b, e, rfl, eb, hl, rfl⟩
section
variable {X : Cx} {pins : List (Addr × Obj)} {σ : St} {H : Hp} {s : Shared} {a : Addr} {y v : V} {u r : Value} {o : Option V} {A : Around} {E : Value → Shared → Prop}
theorem Inv.big (I : Inv X pins σ H s) : sysModules < s.heap.objs.size := by
 have h : mainGlobals < s.heap.objs.size := (I.mod.glob.keeps I.bk).lt
 exact Nat.lt_trans (by decide) h
theorem Xd (hu : A.units + 1 < cLine) (I : Inv X pins σ H s) (g : dn H a y (some v)) (ry : RelV y u) (h : ∀ w' s', Inv X pins σ H s' → RelV v w' → Q w' s') :
    wpAny (model X.prog X.w) A (getItem (.ref a) u) Q E s := by
  rcases g with ⟨kvs, k, e, ey, l⟩ | ⟨kvs, k, b, e, ey, eb, l⟩
  · subst ey
    obtain ⟨z, hd, vs, rel, dd⟩ := Hu I.hok e
    obtain ⟨w', hw, rw'⟩ := Df.some_of (v := v) (o := valueAt vs k) (by rw [l]; exact rel.val k)
    exact wpAny_getItem_of (Fy ry) dd.mapOf hw (h w' _ (I.tok _) rw')
  · subst ey
    cases (show u = Value.ref b from ry)
    obtain ⟨z, hd, xs, rel, dd⟩ := Hw I.hok e
    obtain ⟨w', hw, rw'⟩ := Df.some_of (v := v) (o := (atKey xs k).map (·.2)) (by rw [l]; exact rel.val k)
    obtain ⟨p, hp, hp2⟩ := Option.map_eq_some_iff.mp hw
    refine wpAny_getItem_heap (tupleKind_room_in1 hu) (Hv I.hok eb) dd hp ?_
    rw [hp2]
    exact h w' _ (I.tok _) rw'
theorem Xe (hu : A.units + 1 < cLine) (I : Inv X pins σ H s) (g : dn H a y o) (ry : RelV y u) (h : ∀ s', Inv X pins σ H s' → Q (.bool o.isSome) s') :
    wpAny (model X.prog X.w) A (compareOp .In u (.ref a)) Q E s := by
  rcases g with ⟨kvs, k, e, ey, l⟩ | ⟨kvs, k, b, e, ey, eb, l⟩
  · subst ey
    obtain ⟨z, hd, vs, rel, dd⟩ := Hu I.hok e
    refine wpAny_in_of (Fy ry) hd dd.mapOf ?_
    rw [← (rel.val k).isSome_eq, ← l]
    exact h _ (I.tok _)
  · subst ey
    cases (show u = Value.ref b from ry)
    obtain ⟨z, hd, xs, rel, dd⟩ := Hw I.hok e
    refine wpAny_in_heap (tupleKind_room_in1 hu) (Hv I.hok eb) hd dd ?_
    have q := (rel.val k).isSome_eq
    rw [Option.isSome_map] at q
    rw [← q, ← l]
    exact h _ (I.tok _)
theorem xf (hu : A.units + 1 < cLine) (I : Inv X pins σ H s) (g : dn H a y o) (ry : RelV y u) (h : ∀ s', Inv X pins σ H s' → Q (.bool (!o.isSome)) s') :
    wpAny (model X.prog X.w) A (compareOp .NotIn u (.ref a)) Q E s := by
  rcases g with ⟨kvs, k, e, ey, l⟩ | ⟨kvs, k, b, e, ey, eb, l⟩
  · subst ey
    obtain ⟨z, hd, vs, rel, dd⟩ := Hu I.hok e
    refine wpAny_notIn_of (Fy ry) hd dd.mapOf ?_
    rw [← (rel.val k).isSome_eq, ← l]
    exact h _ (I.tok _)
  · subst ey
    cases (show u = Value.ref b from ry)
    obtain ⟨z, hd, xs, rel, dd⟩ := Hw I.hok e
    refine wpAny_notIn_heap (tupleKind_room_in1 hu) (Hv I.hok eb) hd dd ?_
    have q := (rel.val k).isSome_eq
    rw [Option.isSome_map] at q
    rw [← q, ← l]
    exact h _ (I.tok _)
theorem Jl (I : Inv X pins σ H s) (mu : Mut (H a)) (hs : Heap.SameBut a s.heap h') (he : ∃ q, h'.get? a = some q) (new : bg X.prog X.w (upd H a ob) h' a ob) :
    Inv X pins σ (upd H a ob) { s with heap := h', toks := t' } :=
  I.write (x := a) (e := a) mu (.inl rfl) (fun b q hb z => (hs.2 b hb).trans z) he new
theorem md (z : kvs.length ≤ sizeLine) (hd : (a == sysModules) = false) (rel : KV kvs vs) (dd : h'.DictOf (Ck P w) a vs) :
    bg P w H' h' a (.dK kvs) := ⟨z, hd, vs, rel, dd⟩
theorem Xf (hu : A.units + 1 < cLine) (I : Inv X pins σ H s) (g : gp H a y v H') (ry : RelV y u) (rv : RelV v r) (h : ∀ s', Inv X pins σ H' s' → Q () s') :
    wpAny (model X.prog X.w) A (setItem (.ref a) u r) Q E s := by
  rcases g with ⟨kvs, k, e, ey, l, eH⟩ | ⟨kvs, k, b, e, ey, eb, l, eH⟩
  · subst ey eH
    obtain ⟨z, hd, vs, rel, dd⟩ := jl I.hok e
    have hz : vs.length ≤ sizeLine := by rw [← rel.length]; exact z
    have hl : (putK kvs k v).length ≤ sizeLine := by have := Jk kvs k v; omega
    refine wpAny_setItem_pairs (hsz := hz) (Fy ry) dd fun h' dd' hs => h _ ?_
    have he : ∃ q, h'.get? a = some q := let ⟨q, _, _, hq, _⟩ := dd'; ⟨q, hq⟩
    exact Jl I (by rw [e]; exact True.intro) hs he (md hl hd (rel.put k rv) dd')
  · subst ey eH
    cases (show u = Value.ref b from ry)
    obtain ⟨z, hd, xs, rel, dd⟩ := Xc I.hok e
    have hz : xs.length ≤ sizeLine := by rw [← Paired.length rel]; exact z
    have hl : (putK kvs k v).length ≤ sizeLine := by have := Jk kvs k v; omega
    refine wpAny_setItem_heap (hsz := hz) (tupleKind_room_in1 hu) (Hv I.hok eb) dd fun h' dd' hs => h _ ?_
    obtain ⟨q, es, ep, hq, h2, h3, h4, _, h5⟩ := dd'
    refine Jl I (by rw [e]; exact True.intro) hs ⟨q, hq⟩ ⟨hl, hd, _, (rel.put k eb rv).keeps fun c ys ec => ?_, q, es, ep, hq, h2, h3, h4, h5⟩
    rw [Ax (jf ec e (fun z => nomatch z))]
    exact ec
end
section
variable {X : Cx} {pins : List (Addr × Obj)} {σ : St} {H : Hp} {s : Shared} {a : Addr} {kvs : List (Key × V)} {k : Key} {u : Value} {A : Around} {E : Value → Shared → Prop}
end
theorem xg {σ : St} (I : Inv X pins σ H s) (g : dn H a y o) : s.TypeIs (.ref a) "dict" := by
 rcases g with ⟨kvs, k, e, _, _⟩ | ⟨kvs, k, b, e, _, _, _⟩
 · obtain ⟨_, _, vs, _, dd⟩ := Hu I.hok e
   exact dd.typeIs
 · obtain ⟨_, _, xs, _, dd⟩ := Hw I.hok e
   exact dd.typeIs
section
variable {X : Cx} {o i e value : Expr} {pos pos' tpos : Pos} {td ty tv : TE}
end
theorem pz (h : Heap) (hb : sysModules < h.objs.size) : bg P w H (h.push { cls := .type "dict", data := .dict #[] }) h.objs.size (.dK []) :=
 ⟨Nat.zero_le _, beq_eq_false_iff_ne.mpr (Ne.symm (Nat.ne_of_lt hb)), [], .nil, Heap.DictOf.new h⟩
def Xg : TE := fun _ H Q => ∀ p, H p = none → Q (.ref p) (upd H p (.dK []))
section
variable {X : Cx} {pos : Pos}
theorem xh : PE X (.Dict [] [] pos) Xg := fun pins s σ H Q I h =>
 wpAny_Dict_empty ⟨.ref s.heap.objs.size, _, I.laid (a := s.heap.objs.size) (o := .dK []) (t' := s.toks) (fun _ _ q => Heap.get?_push_of_some _ q) (Nat.le_refl _) (pz s.heap I.big), rfl, h _ (I.hok.fresh (Nat.le_refl _))⟩
end
def Gp (kvs more : List (Key × V)) : List (Key × V) := more.foldl (fun acc kv => putK acc kv.1 kv.2) kvs
theorem KV.merge : ∀ {more : List (Key × V)} {rs : List (Key × Value)} {kvs : List (Key × V)} {vs : List (Key × Value)}, KV more rs → KV kvs vs → KV (Gp kvs more) (merged vs rs) := by
 intro more rs kvs vs r
 unfold KV at r
 induction r generalizing kvs vs with
 | nil => intro q; exact q
 | @cons p q ps qs h t ih =>
  intro r0
  have e : KV (putK kvs p.1 p.2) (stored vs q.1 q.2) := by
   have := r0.put p.1 h.2
   rw [← h.1]; exact this
  exact ih e
theorem Pz : ∀ (more kvs : List (Key × V)), (Gp kvs more).length ≤ kvs.length + more.length
 | [], kvs => by show kvs.length ≤ kvs.length + 0; omega
 | p :: r, kvs => by
  have h1 := Pz r (putK kvs p.1 p.2)
  have h2 := Jk kvs p.1 p.2
  show (Gp (putK kvs p.1 p.2) r).length ≤ _
  rw [List.length_cons]; omega
section
variable {X : Cx} {pins : List (Addr × Obj)} {σ : St} {H : Hp} {s : Shared} {a : Addr} {y d : V} {u r : Value} {o : Option V} {A : Around} {E : Value → Shared → Prop}
end
section
variable {X : Cx} {o e f : Expr} {apos cpos : Pos} {td ty tx : TE}
end
section
variable {X : Cx} {pins : List (Addr × Obj)} {σ : St} {H : Hp} {s : Shared} {a : Addr} {kvs : List (Key × V)} {A : Around} {E : Value → Shared → Prop}
end
section
variable {X : Cx} {pins : List (Addr × Obj)} {σ : St} {H : Hp} {s : Shared} {a : Addr} {y : V} {u : Value} {A : Around} {E : Value → Shared → Prop}
end
end L2
namespace Att
open PySem PySem.W PySem.Calls PyProof.Rows
theorem Xh : ∀ (ns : List Int) (vs : List Value), WellAll P h vs (ns.map WData.int) → IntsAre vs ns := by
 intro ns
 induction ns with
 | nil =>
  intro vs w
  rw [List.map_nil] at w
  cases w
  exact .nil
 | cons n ns ih =>
  intro vs w
  rw [List.map_cons] at w
  cases w with
  | cons a b =>
   cases a
   exact .cons _ _ (ih _ b)
theorem xi {l : OpenLaw} {n : Nat} (hn : l.most = some n) {P : Params} {h : Heap} {args : List WData} {vals : List Value}
    (hpre : l.row.toRowW.claim.pre args = true) (hwl : WellAll P h vals args) :
    ∃ a vs ns, vals = [Value.ref a] ∧ args = [WData.list (ns.map WData.int)] ∧ h.get? a = some { cls := .type "list", data := .seq vs.toArray } ∧ IntsAre vs ns ∧ ns.length ≤ n := by
  have hsh : WShape.hasAll [] args [.list .int] = true := (pre_splitW hpre).1
  have hc : l.pre.holds [] { args := args } = true := (pre_splitW hpre).2
  obtain ⟨d, r, rfl, h1, h2⟩ := hasAllW_cons hsh
  obtain rfl := hasAllW_nil h2
  obtain ⟨xs, rfl, h3⟩ := hasW_list h1
  obtain ⟨ns, rfl⟩ := items_int h3
  have hlen : ns.length ≤ n := by
    unfold OpenLaw.pre at hc
    have h4 : (WTm.not (.lt (.lit (.int (n : Int))) (.len (.arg 0)))).holds [] { args := [.list (ns.map .int)] } = true := by
      have h4 := (holds_andW hc).1
      rw [hn] at h4
      exact h4
    have h5 := condW_of h4 (w_not (w_lt w_lit (w_len_list (w_arg rfl))))
    rw [List.length_map] at h5
    refine Nat.le_of_not_lt fun q => ?_
    have q' : (n : Int) < ((ns.length : Nat) : Int) := by omega
    first
      | (rw [decide_eq_true q'] at h5; exact absurd h5 (by decide))
      | (simp at h5; omega)
  cases hwl with
  | cons w1 w2 =>
    cases w2
    cases w1 with
    | list ho hall => exact ⟨_, _, ns, rfl, rfl, ho, Xh ns _ hall, hlen⟩
theorem Xi (l : OpenLaw) (args : List WData) : l.row.toRowW.claim.post args (.bool true) args = true :=
 postW_of (r := l.row.toRowW) (X := (true == true))
  (show WShape.has [] (.bool true) .bool = true by first | rfl | decide | simp [WShape.has, WShape.arms, WShape.armsAll])
  (show (WTm.eq .res (.lit (.bool true))).value [] { args := args, res := some (.bool true), after := args } = some (.bool (true == true)) from w_eq_bool (w_res rfl) w_lit) rfl
theorem xj {l : OpenLaw} {n : Nat} {q : Program} {loose : List Str} {XP : (Str → Option Value) → Heap → Prop} {YP : World → Heap → Prop} {d : DefRec}
    (hn : l.most = some n) (hdf : d.params.defaults = [])
    (call : ∀ (w : World) (s₀ s₁ : Shared) (mg mb : Str → Option Value) (fa : Addr) (o : Obj) (pm cd doc : Value) (a : Addr) (vs : List Value) (ns : List Int),
      Ground q loose [] XP w s₀ mg mb s₁.heap → YP w s₁.heap →
      s₁.heap.get? fa = some o → o.data = .func (docDef d.name d.params d.body d.scope pm cd doc) → s₁.heap.CodeRec cd d.name → mg d.name = some (.ref fa) →
      s₁.heap.get? a = some { cls := .type "list", data := .seq vs.toArray } → IntsAre vs ns → ns.length ≤ n → s₁.gens = #[] →
      codeAny (model l.prog w) callerA (.call (.ref fa) ⟨[.ref a], []⟩) (fun r s' => r = .ok (.ret (.bool true)) ∧ OldK s₁.heap s'.heap ∧ s'.os = s₁.os ∧ AllBare s'.gens) s₁) :
    WalkO q loose XP YP l.row.toRowW d [] (fun f vs => PySem.call f vs) := by
  intro w s₀ s₁ mg mb G Y fa o pm cd doc dV kV ho hd hcd hD hmg hg args vals as hpre hlay hrd hwl hlo
  obtain rfl : dV = .none := Dflts.none hD hdf
  obtain rfl : kV = .none := Dflts.noKw hD
  obtain ⟨a, vs, ns, rfl, rfl, hobj, hints, hlen⟩ := xi hn hpre hwl
  refine enter_call (codeAny_mono (call w s₀ s₁ mg mb fa o pm cd doc a vs ns G Y ho (fd_plain hd) hcd hmg hobj hints hlen hg) fun r s' hq => ?_)
  obtain ⟨rfl, h2, h3, h4⟩ := hq
  exact ⟨.inl ⟨.bool true, .bool true, [], rfl, fun _ => rfl, .bool true, Xi l _, fun _ => ⟨List.Pairwise.nil, fun _ hm => (nomatch hm)⟩⟩, h2, h3, h4⟩
section
variable {prog : Program} {w : World} {A : Around} {E : Value → Shared → Prop} {s : Shared} {K : Frag}
end
end Att
namespace L2
open PySem PySem.Spec PyProof.Rows
theorem qa : ∀ {vs : List Value} {ns : List Int}, IntsAre vs ns → Vals (ns.map V.int) vs
 | _, _, .nil => .nil
 | _, _, .cons n t h => .cons ⟨t, rfl⟩ (qa h)
def jm (H : Hp) : Prop := ∀ b, H b = none ∨ ∃ o xs, H b = some (.frz o (.lst xs))
theorem Xj {P : Program} {w : World} {K : PySem.W.Frag} {mg mb : Str → Option Value} {CX : CXT} {k : Nat} {fa a : Addr} {fd : FuncData} {x : Str} {sp : Sp} {s₁ : Shared} {vs : List Value} {ns : List Int}
    (KX : K.In s₁.heap) (hns : s₁.heap.Ns mainGlobals mg) (hb : s₁.heap.Ns builtinsNs mb) (hbb : ∀ x : Str, x ≠ "__name__" → mb x = bootBuiltins x) (hlim : s₁.heap.NoLimit) (hg : s₁.gens = #[])
    (ha : s₁.heap.get? a = some { cls := .type "list", data := .seq vs.toArray }) (hi : IntsAre vs ns) (hl : ns.length ≤ sizeLine) (hr : Room k callerA)
    (F : ∀ base : Heap, K.In base → base.Ns mainGlobals mg → FnOk P w K mg base CX k fa fd [x] sp) (hbind : ∀ (s : Shared) (u : Value), BindsTo s fd ⟨[u], []⟩ [(x, u)])
    (hsp : ∀ H : Hp, jm H → SqL K H a (ns.map V.int) → sp [.ref a] H (fun v _ => v = .bl true) fun _ _ _ => False)
    (hCX : ∀ H e s', CX [] H s₁ (fun _ _ _ => False) e s' → False) :
    codeAny (model P w) callerA (.call (.ref fa) ⟨[.ref a], []⟩) (fun r s' => r = .ok (.ret (.bool true)) ∧ OldK s₁.heap s'.heap ∧ s'.os = s₁.os ∧ AllBare s'.gens) s₁ := by
  have rv := qa hi
  have lenV := hi.length
  have core : ∀ H : Hp, jm H → SqL K H a (ns.map V.int) → HOk P w H s₁.heap → (∀ b, H b ≠ none → b = a) → (H a ≠ none → K.lookup a = none) →
      codeAny (model P w) callerA (.call (.ref fa) ⟨[.ref a], []⟩) (fun r s' => r = .ok (.ret (.bool true)) ∧ OldK s₁.heap s'.heap ∧ s'.os = s₁.os ∧ AllBare s'.gens) s₁ := by
    intro H hO hS hok hA hK
    have base_of : ∀ {b : Addr} {o : Obj}, s₁.heap.get? b = some o → H b = none → (Ep s₁.heap H).get? b = some o := fun e n => Uh e n
    have noA : ∀ {b : Addr} {o : Obj} {es : Array DictEntry} {ep : Nat}, s₁.heap.get? b = some o → o.data = .dict es ep → H b = none := fun {b o es ep} e d => by
      cases q : H b with
      | none => rfl
      | some u =>
        have e' : b = a := hA b (by rw [q]; simp)
        subst e'
        rw [ha] at e; cases e
        have d' : Data.seq vs.toArray _ = Data.dict es ep := d
        cases d'
    have nsK : ∀ {b : Addr} {m : Str → Option Value}, s₁.heap.Ns b m → (Ep s₁.heap H).Ns b m := fun {b m} ⟨o, es, ep, e, d, r⟩ => ⟨o, es, ep, base_of e (noA e d), d, r⟩
    have hKb : K.In (Ep s₁.heap H) := fun b o e => base_of (KX b o e) (by
      cases q : H b with
      | none => rfl
      | some u =>
        have e' : b = a := hA b (by rw [q]; simp)
        subst e'
        rw [hK (by rw [q]; simp)] at e; cases e)
    have hM : Mod K mg (Ep s₁.heap H) := ⟨hKb, nsK hns, ⟨mb, nsK hb, hbb⟩, let ⟨mc, h1, h2⟩ := hlim; ⟨mc, nsK h1, h2⟩⟩
    have e0 : Env0 P w K mg (Ep s₁.heap H) callerA [] s₁ H := ⟨rfl, hM, fun b o e => ui e, Nat.le_of_eq (uh _ _), trivial, fun b hb => absurd (show b ∈ ([] : List Addr) from hb) (by simp), hok, .of_eq hg⟩
    refine codeAny_mono ((F _ hKb (nsK hns)).run callerA [] s₁ H ⟨[.ref a], []⟩ [.ref a] [.ref a] _ _ hr e0 (hbind s₁ (.ref a)) (.cons rfl .nil) (hsp H hO hS)) fun r s' h => ?_
    cases r with
    | error e => exact (hCX H e s' h).elim
    | ok fl =>
      cases fl with
      | next => exact False.elim h
      | brk => exact False.elim h
      | cont => exact False.elim h
      | ret u =>
        obtain ⟨v, H', os, bare, un, hok', r', q⟩ := h
        have q' : v = .bl true := q
        subst q'
        obtain rfl : u = Value.bool true := r'
        refine ⟨rfl, OldK.of_keep fun b o e => ?_, os, bare⟩
        cases q : H b with
        | none => exact un.keep b o e q (by intro z; exact absurd (show b ∈ ([] : List Addr) from z) (by simp)) (by simp)
        | some u =>
          rcases hO b with z | ⟨ob, xs, z⟩
          · rw [q] at z; cases z
          · have z2 := un.frzs b ob _ z
            obtain ⟨e1, _⟩ := hok b _ z
            obtain ⟨e2, _⟩ := hok' b _ z2
            rw [e] at e1; cases e1
            exact e2
  cases hk : K.lookup a with
  | some o =>
    have e := KX a o hk
    rw [ha] at e
    cases e
    refine core (fun _ => none) (fun _ => .inl rfl) (.inr ⟨_, vs.toArray, _, hk, rfl, rfl, rfl, by rw [List.size_toArray, lenV]; exact hl, by simpa using rv⟩) (fun b u z => by have z' : (none : Option HO) = some u := z; cases z') (fun b z => absurd rfl z) fun z => absurd rfl z
  | none =>
    refine core (fun b => if b = a then some (.frz { cls := .type "list", data := .seq vs.toArray } (.lst (ns.map V.int))) else none) (fun b => ?_) (.inl (.inr ⟨{ cls := .type "list", data := .seq vs.toArray }, if_pos rfl⟩)) (fun b u z => ?_) (fun b z => ?_) fun _ => hk
    · by_cases hb : b = a
      · exact .inr ⟨_, _, if_pos hb⟩
      · exact .inl (if_neg hb)
    · by_cases hb : b = a
      · have z' := (if_pos hb).symm.trans z
        cases z'
        subst hb
        exact ⟨ha, by rw [List.length_map]; exact hl, vs, _, rv, ha⟩
      · have z' := (if_neg hb).symm.trans z
        cases z'
    · by_cases hb : b = a
      · exact hb
      · exact absurd (if_neg hb) z
end L2
namespace L2
open PySem PySem.Spec PyProof.Rows
theorem Xk {l : PySem.W.OpenLaw} {n k : Nat} {q : Program} {loose : List Str} {XP : (Str → Option Value) → Heap → Prop} {YP : World → Heap → Prop} {d : DefRec} {K : Params → PySem.W.Frag} {CX : World → CXT} {sp : World → Sp} {x : Str}
    (hn : l.most = some n) (hn2 : n ≤ sizeLine) (hdf : d.params.defaults = []) (hr : Room k callerA)
    (hY : ∀ (w : World) (h : Heap), YP w h → (K w.params).In h)
    (F : ∀ (w : World) (mg : Str → Option Value) (fa : Addr) (h : Heap), (K w.params).In h → h.Ns mainGlobals mg → mg d.name = some (.ref fa) →
      ∃ fd : FuncData, (∀ (s : Shared) (u : Value), BindsTo s fd ⟨[u], []⟩ [(x, u)]) ∧
        ∀ base : Heap, (K w.params).In base → base.Ns mainGlobals mg → FnOk l.prog w (K w.params) mg base (CX w) k fa fd [x] (sp w))
    (hsp : ∀ (w : World) (H : Hp) (a : Addr) (ns : List Int), ns.length ≤ n → jm H → SqL (K w.params) H a (ns.map V.int) → sp w [.ref a] H (fun v _ => v = .bl true) fun _ _ _ => False)
    (hCX : ∀ (w : World) (H : Hp) (s : Shared) (e : Value) (s' : Shared), CX w [] H s (fun _ _ _ => False) e s' → False) :
    PySem.W.WalkO q loose XP YP l.row.toRowW d [] (fun f vs => PySem.call f vs) := by
  refine Att.xj hn hdf fun w s₀ s₁ mg mb fa o pm cd doc a vs ns G Y ho hd hcd hmg hobj hints hlen hg => ?_
  have KX := hY w _ Y
  obtain ⟨fd, hb, hF⟩ := F w mg fa _ KX G.T.g hmg
  exact Xj KX G.T.g G.T.b G.T.builtins G.T.nolimit hg hobj hints (Nat.le_trans hlen hn2) hr hF hb (fun H hO hS => hsp w H a ns hlen hO hS) fun H e s' => hCX w H s₁ e s'
end L2
namespace L2
open PySem PySem.Spec PyProof.Rows
def aj (s : Stmt) : Arguments := match s with
 | .FunctionDef _ a _ _ _ _ _ _ _ _ => a
 | _ => { posonlyargs := [], args := [], vararg := none, kwonlyargs := [], kw_defaults := [], kwarg := none, defaults := [] }
def Ai (s : Stmt) : List Stmt := match s with
 | .FunctionDef _ _ b _ _ _ _ _ _ _ => b
 | _ => []
def ae (s : Stmt) : Scope := match s with
 | .FunctionDef _ _ _ _ _ _ sc _ _ _ => sc
 | _ => { kind := .function, names := [], isGenerator := false, isCoroutine := false }
abbrev CX0 : CXT := fun _ _ _ _ _ _ => False
abbrev E0 : XK := fun _ _ _ => False
structure Fun (K : PySem.W.Frag) (x qual : Str) (st : Stmt) (f : Addr) (fd : FuncData) : Prop where
 ex : ∃ (oc : Value) (od : Option Addr) (kV doc pm : Value) (an : Option Addr) (cdv ct : Value) (osl : Array (Option Value)),
  fd = PySem.W.fnOf x qual (aj st) (Ai st) (ae st) .none kV doc pm an cdv ct ∧ K.lookup f = some ⟨oc, od, .func fd, osl⟩ ∧ PySem.W.codeIn K cdv qual = true
 kp : PySem.W.keepIn K (.ref f) = true
section
variable {P : Program} {w : World} {K : PySem.W.Frag} {mg : Str → Option Value} {base : Heap}
theorem Fun.ok {x qual : Str} {st : Stmt} {f : Addr} {fd : FuncData} {N ps : List Str} {k : Nat} {sp : Sp} (F : Fun K x qual st f fd) (S : FnScope N ps (ae st)) (len : ∀ vs H Q E, sp vs H Q E → vs.length = ps.length)
    (hbody : ∀ (cdv : Value) (A : Around) (outer : List Env) (s : Shared) (H : Hp) (vs : List V) (Q : VK) (E : XK), Room k (A.deeper (envOfC qual (ae st) s.heap.objs.size f cdv)) → sp vs H Q E →
      ∃ t, PSs (Ds CX0 P w K mg base N qual (ae st) f cdv A outer s H E).nox (Ai st) t ∧ t { nx := fun _ H' => Q .non H', rt := Q } (start N vs) H) : FnOk P w K mg base CX0 (k + 1) f fd ps sp := by
  obtain ⟨oc, od, kV, doc, pm, an, cdv, ct, osl, rfl, lk, hcd⟩ := F.ex
  refine Ji lk hcd S len fun A outer s H vs Q E hr hsp => ?_
  obtain ⟨t, h, q⟩ := hbody cdv A outer s H vs Q E hr hsp
  exact ⟨t, h.nox, q⟩
end
section
variable {X : Cx}
theorem pv (i : Nat) {pos : Pos} (hN : X.N[i]? = some x := by rfl) (hv : Vis X.env.scope x := by first | exact Or.inl rfl | exact Or.inr (Or.inl rfl) | exact Or.inr (Or.inr rfl)) (hd : (x == ("__debug__" : Str)) = false := by decide)
    (hcd : (x == ("__classdict__" : Str)) = false := by decide) : PE X (.Name x pos) (lr i) := uj hN hv hd hcd
end
theorem Hx {A B : Prop} (h : B) : if false = true then A else B := by
 rw [if_neg Bool.false_ne_true]
 exact h
theorem Hy {A B : Prop} (h : A) : if true = true then A else B := by
 rw [if_pos rfl]
 exact h
def Bq (H H' : Hp) : Prop := ∀ b o, H b = some o → H' b = some o
theorem Bq.trans (a : Bq H H1) (b : Bq H1 H2) : Bq H H2 := fun c o h => b c o (a c o h)
theorem Bq.free {H H' : Hp} (e : Bq H H') {l : Addr} (h : H' l = Option.none) : H l = Option.none := by
 cases q : H l with
 | none => rfl
 | some o =>
  rw [e l o q] at h
  cases h
section
variable {κ : Type} [DecidableEq κ]
end
end L2
namespace DD
open PySem PySem.Builtin L2
open PyProof.Rows (IsTup.new)
theorem xl (l : Addr) (items : Array Value) (n : Nat) (dd : Option Addr) (sl : Array (Option Value)) (x : Int) (u : Tok) (h1 : (decide (x < -2 ^ 63) || decide (x ≥ 2 ^ 63)) = false) (h2 : (items.isEmpty || x == 1) = true) :
    Meets (Builtin.«tuple.__mul__» ⟨[.ref l, .int x u], []⟩) (fun _ R s => s.heap.get? l = some { cls := .type "tuple", dict := dd, data := .seq items n, slots := sl } ∧ R (.ok (.ret (Value.ref l))) s) :=
  .of_wp fun pr wd Ar Rs s0 hh => by
    obtain ⟨hp0, gn, dr, tk0, os0⟩ := s0
    obtain ⟨hl, hh⟩ := hh
    wp_walk
    refine wpAny_ite_false (by rw [h1]; rfl) ?_
    wp_walk
    exact ⟨_, rfl, hh⟩
theorem Xl (l : Addr) (items : Array Value) (n : Nat) (dd : Option Addr) (sl : Array (Option Value)) (x : Int) (u : Tok) (h1 : (decide (x < -2 ^ 63) || decide (x ≥ 2 ^ 63)) = false) (h2 : (items.isEmpty || x == 1) = false) (h3 : (decide (x ≤ 0) || items.isEmpty) = true) :
    Meets (Builtin.«tuple.__mul__» ⟨[.ref l, .int x u], []⟩) (fun _ R s => s.heap.get? l = some { cls := .type "tuple", dict := dd, data := .seq items n, slots := sl } ∧ R (.ok (.ret (Value.ref s.heap.objs.size))) { s with heap := s.heap.push { cls := .type "tuple", data := .seq #[] } }) :=
  .of_wp fun pr wd Ar Rs s0 hh => by
    obtain ⟨hp0, gn, dr, tk0, os0⟩ := s0
    obtain ⟨hl, hh⟩ := hh
    wp_walk
    refine wpAny_ite_false (by rw [h1]; rfl) ?_
    wp_walk
    exact ⟨_, rfl, hh⟩
theorem Xm (l : Addr) (items : Array Value) (n : Nat) (dd : Option Addr) (sl : Array (Option Value)) (x : Int) (u : Tok) (h1 : (decide (x < -2 ^ 63) || decide (x ≥ 2 ^ 63)) = false) (h2 : (items.isEmpty || x == 1) = false) (h3 : (decide (x ≤ 0) || items.isEmpty) = false) (h4 : ¬ ((items.size : Int) * x > (2 ^ 63 - 1) / 8)) (h5 : Tuple.tupleTooMany ((items.size : Int) * x) = false) (h6 : (List.foldl (fun x1 x2 => x1 ++ x2) #[] (List.replicate x.toNat items)).size ≤ sizeLine) :
    Meets (Builtin.«tuple.__mul__» ⟨[.ref l, .int x u], []⟩) (fun _ R s => s.heap.get? l = some { cls := .type "tuple", dict := dd, data := .seq items n, slots := sl } ∧ R (.ok (.ret (Value.ref s.heap.objs.size))) { s with heap := s.heap.push { cls := .type "tuple", data := .seq (List.foldl (fun x1 x2 => x1 ++ x2) #[] (List.replicate x.toNat items)) } }) :=
  .of_wp fun pr wd Ar Rs s0 hh => by
    obtain ⟨hp0, gn, dr, tk0, os0⟩ := s0
    obtain ⟨hl, hh⟩ := hh
    wp_walk
    refine wpAny_ite_false (by rw [h1]; rfl) ?_
    wp_walk
    refine wpAny_ite_false (decide_eq_false h4) ?_
    wp_walk
    exact ⟨_, rfl, hh⟩
theorem xn (a : Int) (t : Tok) (l : Addr) (items : Array Value) (n : Nat) (dd : Option Addr) (sl : Array (Option Value)) :
    Meets (Builtin.«int.__rmul__» ⟨[.int a t, .ref l], []⟩) (fun _ R s => s.heap.get? l = some { cls := .type "tuple", dict := dd, data := .seq items n, slots := sl } ∧ R (.ok (.ret Value.notImplemented)) s) :=
  .of_wp fun pr wd Ar Rs s0 hh => by
    obtain ⟨hp0, gn, dr, tk0, os0⟩ := s0
    obtain ⟨hl, hh⟩ := hh
    wp_walk
    exact ⟨_, rfl, hh⟩
theorem Xn : fillsNumberSlot (.type "tuple") "mul" = pure false :=
 fillsNumberSlot_seq (id := "tuple.__mul__") (r := some (.builtin "tuple.__rmul__")) PySem.F.slot_tuple_mul.lookup (by decide +kernel) PySem.F.slot_tuple_rmul.lookup (by decide +kernel)
theorem xo : seqRepeat? (.type "tuple") = pure (some (.builtin "tuple.__mul__")) := by
 unfold seqRepeat?
 rw [seqSlot_of (T := "tuple") (name := "__mul__") (id := "tuple.__mul__") PySem.F.slot_tuple_mul.lookup (by decide +kernel), seqSlot_of (T := "tuple") (name := "__rmul__") (id := "tuple.__rmul__") PySem.F.slot_tuple_rmul.lookup (by decide +kernel)]
 rfl
theorem Md {α : Type} (k : Nat) (xs : List α) : (List.replicate k xs).flatten.length = k * xs.length := by simp
def Xo (K : PySem.W.Frag) : R2 := fun x y H Q => ∃ a k xs, x = .ref a ∧ y = .int k ∧ SqT K H a xs ∧ -(2 ^ 63) ≤ k ∧ k < 2 ^ 63 ∧ xs.length * k.toNat ≤ sizeLine ∧
 (((List.replicate k.toNat xs).flatten = xs → Q (.ref a) H) ∧ ∀ p, H p = none → Q (.ref p) (upd H p (.tup (List.replicate k.toNat xs).flatten)))
theorem Xp : OpR X (binaryOp .Mult) (Xo X.K) := by
 intro pins s σ H x y v u Q I rx ry h
 obtain ⟨a, k, xs, rfl, rfl, ha, h1, h2, hz, q1, q2⟩ := h
 cases rx
 obtain ⟨t, rfl⟩ := ry
 obtain ⟨its, r, p, hsz⟩ := I.tuple ha
 obtain ⟨⟨cls, dd, data, sl⟩, ho, hc, n, hd⟩ := id p
 simp only at hc hd
 subst hc hd
 have e1 : (decide (k < -2 ^ 63) || decide (k ≥ 2 ^ 63)) = false := by
  rw [decide_eq_false (by omega), decide_eq_false (by omega)]; rfl
 have hl := r.length
 refine wpAny_binaryOp_repeat_ref (T := "tuple") (U := "int") (by decide) ⟨_, ho, rfl⟩ (fun s' => typeIs_int s' k t) Xn PySem.F.fills_int_mul PySem.F.slot_int_rmul xo PySem.F.slot_int_index.lookup
  (call_meets PySem.F.slot_int_rmul (typeIs_int s k t) PySem.F.entry_int_rmul (PySem.F.args_int_rmul_2 _ _) (xn k t a its.toArray n dd sl)
   ⟨ho, rfl, ⟨_, ho, rfl⟩, ?_⟩)
 cases e2 : (its.toArray.isEmpty || k == 1) with
 | true =>
  refine call_meets PySem.F.slot_tuple_mul ⟨_, ho, rfl⟩ PySem.F.entry_tuple_mul (PySem.F.args_tuple_mul_2 _ _) (xl a its.toArray n dd sl k t e1 e2) ⟨ho, ?_⟩
  refine ⟨.ref a, H, I, rfl, q1 ?_⟩
  simp only [Bool.or_eq_true, beq_iff_eq] at e2
  rcases e2 with e2 | rfl
  · have : its = [] := by simpa using e2
    subst this
    have : xs = [] := by simpa using hl
    subst this
    simp
  · simp
 | false =>
  cases e3 : (decide (k ≤ 0) || its.toArray.isEmpty) with
  | true =>
   refine call_meets PySem.F.slot_tuple_mul ⟨_, ho, rfl⟩ PySem.F.entry_tuple_mul (PySem.F.args_tuple_mul_2 _ _) (Xl a its.toArray n dd sl k t e1 e2 e3) ⟨ho, ?_⟩
   have hk : k.toNat = 0 := by
    simp only [Bool.or_eq_true, decide_eq_true_eq] at e3
    rcases e3 with e3 | e3
    · omega
    · simp [e3] at e2
   rw [hk] at q2
   refine ⟨.ref s.heap.objs.size, _, I.laid (t' := s.toks) (o := .tup []) (fun b ob q => Heap.get?_push_of_some _ q) (Nat.le_refl _) ?_, rfl, q2 _ (I.hok.fresh (Nat.le_refl _))⟩
   exact ⟨by simp, [], .nil, IsTup.new _ _⟩
  | false =>
   simp only [Bool.or_eq_false_iff, decide_eq_false_iff_not] at e3
   have hk : (k.toNat : Int) = k := Int.toNat_of_nonneg (by omega)
   have hz2 : its.length * k.toNat ≤ sizeLine := by rw [← hl]; exact hz
   have hz3 : (its.toArray.size : Int) * k ≤ 16777216 := by
    have : ((its.length * k.toNat : Nat) : Int) ≤ ((sizeLine : Nat) : Int) := Int.ofNat_le.mpr hz2
    rw [Int.natCast_mul, hk] at this
    rw [List.size_toArray]
    exact Int.le_trans this (by decide)
   have hnew : List.foldl (fun x1 x2 => x1 ++ x2) #[] (List.replicate k.toNat its.toArray) = (List.replicate k.toNat its).flatten.toArray := by
    have := foldl_rep its k.toNat []
    rw [List.nil_append] at this
    exact this
   refine call_meets PySem.F.slot_tuple_mul ⟨_, ho, rfl⟩ PySem.F.entry_tuple_mul (PySem.F.args_tuple_mul_2 _ _) (Xm a its.toArray n dd sl k t e1 e2 (by simp [e3]) (by omega) ?_ ?_) ⟨ho, ?_⟩
   · unfold Tuple.tupleTooMany
     refine decide_eq_false ?_
     have : ((its.length * k.toNat : Nat) : Int) ≤ ((sizeLine : Nat) : Int) := Int.ofNat_le.mpr hz2
     rw [Int.natCast_mul, hk] at this
     rw [List.size_toArray]
     omega
   · rw [hnew, List.size_toArray, Md, Nat.mul_comm]; exact hz2
   · rw [hnew]
     refine ⟨.ref s.heap.objs.size, _, I.laid (t' := s.toks) (o := .tup (List.replicate k.toNat xs).flatten) (fun b ob q => Heap.get?_push_of_some _ q) (Nat.le_refl _) ?_, rfl, q2 _ (I.hok.fresh (Nat.le_refl _))⟩
     exact ⟨by rw [Md, Nat.mul_comm]; exact hz, _, r.rep k.toNat, IsTup.new _ _⟩
theorem Qa {α : Type} (its : List α) : ∀ (k : Nat) (acc : List α), List.foldl (fun x1 x2 => x1 ++ x2) acc.toArray (List.replicate k its.toArray) = (acc ++ (List.replicate k its).flatten).toArray
 | 0, acc => by simp
 | k + 1, acc => by
  have e : acc.toArray ++ its.toArray = (acc ++ its).toArray := by simp
  have e2 : (acc ++ its) ++ (List.replicate k its).flatten = acc ++ (List.replicate (k + 1) its).flatten := by
   rw [List.replicate_succ, List.flatten_cons, List.append_assoc]
  rw [← e2, ← Qa its k (acc ++ its), ← e, List.replicate_succ, List.foldl_cons]
def Cs (z : Str) (k : Nat) : Str := ⟨(List.replicate k z.cps.toList).flatten.toArray⟩
theorem xq : OpR X (binaryOp .Mult) (fun x y H Q => ∃ z k, x = .str z ∧ y = .int k ∧ 1 < k ∧ k < 2 ^ 63 ∧ 0 < z.length ∧ z.length * k.toNat ≤ sizeLine ∧ Q (.str (Cs z k.toNat)) H) := by
 intro pins s σ H x y v u Q I rx ry h
 obtain ⟨z, k, rfl, rfl, h1, h2, h3, h4, q⟩ := h
 obtain ⟨t, rfl⟩ := rx
 obtain ⟨t', rfl⟩ := ry
 have hz : (z.length == 0) = false := by simp; omega
 have hk : (k.toNat : Int) = k := Int.toNat_of_nonneg (by omega)
 have h5 : (z.length : Int) * k ≤ 16777216 := by
  have : ((z.length * k.toNat : Nat) : Int) ≤ ((sizeLine : Nat) : Int) := Int.ofNat_le.mpr h4
  rw [Int.natCast_mul, hk] at this
  exact Int.le_trans this (by decide)
 have e : (⟨(List.replicate k.toNat z.cps).foldl (· ++ ·) #[]⟩ : Str) = Cs z k.toNat := by
  have := Qa z.cps.toList k.toNat []
  rw [List.nil_append, Array.toArray_toList] at this
  unfold Cs
  rw [← this]
 refine PySem.P.mul_str (by rw [decide_eq_false (by omega), decide_eq_false (by omega)]; rfl) (fun _ _ hb => ?_) (fun _ _ => decide_eq_false (by omega)) ?_
 · have := (Int.le_ediv_iff_mul_le (a := (z.length : Int)) (b := (2 ^ 63 - 1)) (c := k) (by omega)).mpr (by omega)
   omega
 · rw [if_neg (by omega), if_neg (by simp [hz]; omega), e]
   refine ⟨?_, .str (Cs z k.toNat), H, I.tok _, ⟨_, rfl⟩, q⟩
   show (Cs z k.toNat).cps.size ≤ sizeLine
   unfold Cs
   rw [List.size_toArray, Md, Nat.mul_comm]
   exact h4
end DD
set_option genSizeOf false
namespace DD
open PySem
inductive D where
 | non | bl (b : Bool) | int (i : Int) | str (x : Str) | tup (ds : List D) | loc (n : Nat)
 deriving Inhabited
mutual
noncomputable def D.beq : D → D → Bool
 | .non, .non => true
 | .bl a, .bl b => a == b
 | .int a, .int b => a == b
 | .str a, .str b => decide (a = b)
 | .tup a, .tup b => D.beqL a b
 | .loc a, .loc b => a == b
 | _, _ => false
noncomputable def D.beqL : List D → List D → Bool
 | [], [] => true
 | a :: r, b :: t => D.beq a b && D.beqL r t
 | _, _ => false
end
mutual
theorem D.beq_eq : ∀ {a b : D}, D.beq a b = true → a = b
 | .non, b, h => by cases b <;> first | rfl | simp [D.beq] at h
 | .bl x, b, h => by cases b <;> simp [D.beq] at h; rw [h]
 | .int x, b, h => by cases b <;> simp [D.beq] at h; rw [h]
 | .str x, b, h => by cases b <;> simp [D.beq] at h; rw [h]
 | .loc x, b, h => by cases b <;> simp [D.beq] at h; rw [h]
 | .tup x, b, h => by
  cases b with
  | tup y =>
   have e : x = y := D.beqL_eq (by simpa [D.beq] using h)
   rw [e]
  | _ => simp [D.beq] at h
theorem D.beqL_eq : ∀ {a b : List D}, D.beqL a b = true → a = b
 | [], [], _ => rfl
 | [], _ :: _, h => by simp [D.beqL] at h
 | _ :: _, [], h => by simp [D.beqL] at h
 | x :: r, y :: t, h => by
  simp only [D.beqL, Bool.and_eq_true] at h
  rw [D.beq_eq h.1, D.beqL_eq h.2]
end
mutual
theorem D.beq_refl : ∀ a : D, D.beq a a = true
 | .non => rfl
 | .bl x => by simp [D.beq]
 | .int x => by simp [D.beq]
 | .str x => by simp [D.beq]
 | .loc x => by simp [D.beq]
 | .tup x => by simp only [D.beq]; exact D.beqL_refl x
theorem D.beqL_refl : ∀ a : List D, D.beqL a a = true
 | [] => rfl
 | x :: r => by simp only [D.beqL, Bool.and_eq_true]; exact ⟨D.beq_refl x, D.beqL_refl r⟩
end
instance : DecidableEq D := fun a b => decidable_of_iff (D.beq a b = true) ⟨D.beq_eq, fun h => h ▸ D.beq_refl a⟩
inductive Cell where
 | lst (ds : List D)
 | frz (ds : List D)
 | dct (kvs : List (D × D))
 | dcn (kvs : List (D × D))
 | dcf (kvs : List (D × D))
 | fnc (i : Nat)
 | ins (c : Nat) (fs : List (Str × D))
 | exn (c : Nat)
 deriving Inhabited
abbrev Sto := List Cell
abbrev Env := List (Option D)
inductive Res (α : Type) where
 | ok (a : α) (st : Sto)
 | exc (c : Nat) (st : Sto)
 | bad
def Res.bind {α β : Type} (r : Res α) (f : α → Sto → Res β) : Res β := match r with
 | .ok a st => f a st
 | .exc c st => .exc c st
 | .bad => .bad
@[simp] theorem ay {α β : Type} (a : α) (st : Sto) (f : α → Sto → Res β) : (Res.ok a st).bind f = f a st := rfl
@[simp] theorem qb {α β : Type} (c : Nat) (st : Sto) (f : α → Sto → Res β) : (Res.exc c st : Res α).bind f = .exc c st := rfl
@[simp] theorem aif {α β : Type} (f : α → Sto → Res β) : (Res.bad : Res α).bind f = .bad := rfl
inductive Ty where
 | b (x : String) | o (n : Nat)
 deriving DecidableEq
noncomputable def me : Cell → Option Ty
 | .lst _ => some (.b "list")
 | .frz _ => some (.b "list")
 | .dct _ => some (.b "dict")
 | .dcn _ => some (.b "dict")
 | .dcf _ => some (.b "dict")
 | .fnc _ => none
 | .ins _ _ => none
 | .exn c => some (.o c)
noncomputable def Bn (st : Sto) : D → Option Ty
 | .non => some (.b "NoneType")
 | .bl _ => some (.b "bool")
 | .int _ => some (.b "int")
 | .str _ => some (.b "str")
 | .tup _ => some (.b "tuple")
 | .loc n => (st[n]?).bind me
noncomputable def af (st : Sto) (n : Nat) : Option (List D) := match st[n]? with
 | some (.lst ds) => some ds
 | some (.frz ds) => some ds
 | _ => none
noncomputable def Cn (st : Sto) : D → Option (List D)
 | .tup ds => some ds
 | .loc n => af st n
 | _ => none
noncomputable def truth (st : Sto) : D → Option Bool
 | .non => some false
 | .bl b => some b
 | .int i => some (i != 0)
 | .str x => if x.length ≤ sizeLine then some ((x.length : Int) != 0) else none
 | .tup ds => some (!ds.isEmpty)
 | .loc n => (af st n).map fun ds => !ds.isEmpty
def Bh {α : Type} : List (Option α) → Option (List α)
 | [] => some []
 | some a :: r => (Bh r).map (a :: ·)
 | none :: _ => none
noncomputable def Ah (st : Sto) : Nat → D → Option PyData
 | _, .non => some .none
 | _, .bl b => some (.bool b)
 | _, .int i => some (.int i)
 | _, .str x => if PyData.canLay0 (.str x) = true then some (.str x) else none
 | 0, _ => none
 | n + 1, .tup ds => (Bh (ds.map (Ah st n))).map .tuple
 | n + 1, .loc m => (af st m).bind fun ds => (Bh (ds.map (Ah st n))).map .list
noncomputable def eqV (st : Sto) (a b : D) : Option Bool := match Ah st 40 a, Ah st 40 b with
 | some x, some y => some (PyData.eqv x y)
 | _, _ => none
inductive Op where
 | add | sub | mul | fdiv | mod | pow
inductive Cm where
 | eq | ne | lt | le | gt | ge | isN | notN | inL | notIn
inductive Bt where
 | absB | intB | lenB | listB | tupleB | minB | maxB | allB | anyB | lenSetB
 deriving DecidableEq
inductive Mt where
 | append | clear | extend | pop | get | upd | sdef | vals | rev | keysL | copyD | popk | popD | popI | upper
set_option genInjectivity false
mutual
inductive E where
 | var (i : Nat)
 | cst (d : D)
 | tupE (es : Es)
 | lstE (es : Es)
 | op (o : Op) (a b : E)
 | neg (a : E)
 | cm (c : Cm) (a b : E)
 | andE (a b : E)
 | orE (a b : E)
 | notE (a : E)
 | ifE (c a b : E)
 | call (f : Nat) (es : Es) (dv : List D)
 | bt (f : Bt) (es : Es)
 | ix (a b : E)
 | isi (a : E) (t : Ty)
 | dnew
 | dnewN
 | sl (k : Nat) (a : E) (es : Es)
 | chn (c1 c2 : Cm) (a b c : E)
 | fld (c : Nat) (o : E) (f : Str)
 | mk (c f : Nat) (es : Es)
 | Ka (c f : Nat) (m : Str) (o : E) (es : Es)
 | callV (f : E) (es : Es)
 | mt (m : Mt) (o : E) (es : Es)
 | dcomp (n : Nat) (one : Bool) (nl : Nat) (tg : List Nat) (fv : List Nat) (it : E) (ifs : Es) (kx vx : E)
 | comp (n : Nat) (one : Bool) (nl : Nat) (tg : List Nat) (fv : List Nat) (it : E) (ifs : Es) (elt : E)
inductive Es where
 | nil
 | cons (e : E) (es : Es)
end
mutual
inductive S where
 | set (i : Nat) (e : E)
 | unp (is : List Nat) (e : E)
 | unpL (is : List Nat) (e : E)
 | par (i j : Nat) (a b : E)
 | aug (i : Nat) (o : Op) (e : E)
 | ifS (c : E) (a b : Ss)
 | whileS (c : E) (b : Ss)
 | forS (tg : List Nat) (one : Bool) (k : Bool) (it : E) (b : Ss)
 | forR (tg : List Nat) (es : Es) (b : Ss)
 | setf (c : Nat) (o : E) (f : Str) (e : E)
 | dput (d k v : E)
 | ret (e : E)
 | retN
 | ex (e : E)
 | raiseS (c : Nat)
 | tryS (b : Ss) (c : Nat) (i : Nat) (h : Ss)
 | pass
inductive Ss where
 | nil
 | cons (s : S) (r : Ss)
end
set_option genInjectivity true
noncomputable def BIG : Nat := 2 ^ 4000
def gq (i : Int) : Prop := -(2 ^ 64) < i ∧ i < 2 ^ 64
instance (i : Int) : Decidable (gq i) := by unfold gq; infer_instance
def Et (i j : Int) : Prop := gq i ∨ gq j ∨ (i.natAbs < BIG ∧ j.natAbs < BIG)
instance (i j : Int) : Decidable (Et i j) := by unfold Et; infer_instance
def fg (j : Int) : Prop := j ≠ 0 ∧ j.natAbs < BIG
instance (j : Int) : Decidable (fg j) := by unfold fg; infer_instance
def Hz (i j : Int) : Prop := 0 ≤ j ∧ j ≤ 1000000 ∧ i.natAbs < 2 ^ 64
instance (i j : Int) : Decidable (Hz i j) := by unfold Hz; infer_instance
noncomputable def Az (st : Sto) (n : Nat) : Option (List (D × D)) := match st[n]? with
 | some (.dct kvs) => some kvs
 | _ => none
noncomputable def Co (kvs : List (D × D)) (k : D) : Option D := (kvs.find? fun p => decide (p.1 = k)).map (·.2)
noncomputable def bx (kvs : List (D × D)) (k v : D) : List (D × D) := if (kvs.any fun p => decide (p.1 = k)) = true then kvs.map fun p => if p.1 = k then (p.1, v) else p else kvs ++ [(k, v)]
noncomputable def Bv : D → Bool
 | .str _ => true
 | .int _ => true
 | _ => false
noncomputable def okN : Nat → D → Bool
 | _, .int _ => true
 | _, .str x => PyData.canLay0 (.str x)
 | n + 1, .tup ds => ds.all (okN n)
 | _, _ => false
noncomputable def Jm : D → Bool
 | .tup ds => okN 8 (.tup ds)
 | _ => false
noncomputable def dt (_ : Sto) (_ : Nat) : Option (List (D × D)) := none
noncomputable def opD (o : Op) (a b : D) (st : Sto) : Res D := match o, a, b with
 | .add, .int i, .int j => .ok (.int (i + j)) st
 | .sub, .int i, .int j => .ok (.int (i - j)) st
 | .mul, .int i, .int j => if Et i j then .ok (.int (i * j)) st else .bad
 | .fdiv, .int i, .int j => if fg j then .ok (.int (i.fdiv j)) st else .bad
 | .mod, .int i, .int j => if j ≠ 0 then .ok (.int (i.fmod j)) st else .bad
 | .pow, .int i, .int j => if Hz i j then .ok (.int (i ^ j.toNat)) st else .bad
 | .add, .str a, .str b => if a.length + b.length ≤ sizeLine then .ok (.str (a ++ b)) st else .bad
 | .add, .loc n, .loc m => match st[n]?, st[m]? with
  | some (.lst xs), some (.lst ys) => if xs.length + ys.length ≤ sizeLine then .ok (.loc st.length) (st ++ [.lst (xs ++ ys)]) else .bad
  | _, _ => .bad
 | .mul, .str z, .int k => if 1 < k ∧ k < 2 ^ 63 ∧ 0 < z.length ∧ z.length * k.toNat ≤ sizeLine then .ok (.str (Cs z k.toNat)) st else .bad
 | .mul, .tup ds, .int k => if -(2 ^ 63) ≤ k ∧ k < 2 ^ 63 ∧ ds.length * k.toNat ≤ sizeLine then .ok (.tup (List.replicate k.toNat ds).flatten) st else .bad
 | .mul, .loc n, .int k => match st[n]? with
  | some (.lst xs) => if -(2 ^ 63) ≤ k ∧ k < 2 ^ 63 ∧ xs.length * k.toNat ≤ sizeLine then .ok (.loc st.length) (st ++ [.lst (List.replicate k.toNat xs).flatten]) else .bad
  | _ => .bad
 | _, _, _ => .bad
noncomputable def inS (st : Sto) (a b : D) : Option Bool := match Ah st 40 a, Ah st 41 b with
 | some x, some (.list ys) => some (ys.any fun y => PyData.eqv y x)
 | some x, some (.tuple ys) => some (ys.any fun y => PyData.eqv y x)
 | _, _ => none
noncomputable def inD (st : Sto) (a b : D) : Option Bool := match b with
 | .str y => match a with | .str x => some (!(Builtin.Str.occurrences y x 0 y.length 1).isEmpty) | _ => none
 | .loc n => match Az st n with
  | some kvs => if Bv a then some (Co kvs a).isSome else none
  | none => match dt st n with
   | some kvs => if Jm a then some (Co kvs a).isSome else none
   | none => inS st a b
 | _ => inS st a b
noncomputable def cmD (c : Cm) (a b : D) (st : Sto) : Res D := match c with
 | .eq => match eqV st a b with | some x => .ok (.bl x) st | none => .bad
 | .ne => match eqV st a b with | some x => .ok (.bl (!x)) st | none => .bad
 | .lt => match a, b with | .int i, .int j => .ok (.bl (decide (i < j))) st | _, _ => .bad
 | .le => match a, b with | .int i, .int j => .ok (.bl (decide (i ≤ j))) st | _, _ => .bad
 | .gt => match a, b with | .int i, .int j => .ok (.bl (decide (j < i))) st | _, _ => .bad
 | .ge => match a, b with | .int i, .int j => .ok (.bl (decide (j ≤ i))) st | _, _ => .bad
 | .isN => match b with | .non => .ok (.bl (decide (a = .non))) st | _ => .bad
 | .notN => match b with | .non => .ok (.bl (!decide (a = .non))) st | _ => .bad
 | .inL => match inD st a b with | some x => .ok (.bl x) st | none => .bad
 | .notIn => match inD st a b with | some x => .ok (.bl (!x)) st | none => .bad
noncomputable def atD (xs : List D) (i : Int) : Option D := L2.atI xs i
noncomputable def ixS (a b : D) (st : Sto) : Res D := match b with
 | .int i => match Cn st a with
  | some xs => match atD xs i with | some d => .ok d st | none => .bad
  | none => match a with
   | .str z => match L2.atI z.cps.toList i with
    | some c => if z.length ≤ sizeLine then .ok (.str ⟨#[c]⟩) st else .bad
    | none => .bad
   | _ => .bad
 | _ => .bad
noncomputable def ixD (a b : D) (st : Sto) : Res D := match a with
 | .loc n => match Az st n with
  | some kvs => if Bv b then (match Co kvs b with | some d => .ok d st | none => .bad) else .bad
  | none => match dt st n with
   | some kvs => if Jm b then (match Co kvs b with | some d => .ok d st | none => .bad) else .bad
   | none => ixS a b st
 | _ => ixS a b st
noncomputable def jn (k : Nat) (ds : List D) : Option (Option Int × Option Int) := match k, ds with
 | 0, [] => some (none, none)
 | 1, [.int i] => some (some i, none)
 | 2, [.int j] => some (none, some j)
 | 3, [.int i, .int j] => some (some i, some j)
 | _, _ => none
def cutD {α : Type} (xs : List α) (lo hi : Option Int) : List α := (xs.drop (HT.sIx xs.length 0 lo)).take (HT.sIx xs.length xs.length hi - HT.sIx xs.length 0 lo)
noncomputable def slD (k : Nat) (a : D) (ds : List D) (st : Sto) : Res D := match jn k ds with
 | some (lo, hi) => match a with
  | .tup xs => .ok (.tup (cutD xs lo hi)) st
  | .loc n => match af st n with
   | some xs => .ok (.loc st.length) (st ++ [.lst (cutD xs lo hi)])
   | none => .bad
  | _ => .bad
 | none => .bad
noncomputable def Dg : List D → Option (List Bool)
 | [] => some []
 | .bl b :: r => (Dg r).map (b :: ·)
 | _ => none
noncomputable def fz (xs : List D) : List D := xs.foldl (fun acc x => if x ∈ acc then acc else acc ++ [x]) []
noncomputable def Ct (f : Str) (v : D) : List (Str × D) → List (Str × D)
 | [] => [(f, v)]
 | (g, x) :: r => if g = f then (g, v) :: r else (g, x) :: Ct f v r
noncomputable def btD (f : Bt) (ds : List D) (st : Sto) : Res D := match f with
 | .absB => (match ds with | [.int i] => .ok (.int (if i < 0 then -i else i)) st | _ => .bad)
 | .intB => (match ds with | [.int i] => .ok (.int i) st | [.bl b] => .ok (.int (if b then 1 else 0)) st | _ => .bad)
 | .lenB => (match ds with
  | [.tup xs] => .ok (.int xs.length) st
  | [.loc n] => (match af st n with | some xs => .ok (.int xs.length) st | none => .bad)
  | [.str z] => if z.length ≤ sizeLine then .ok (.int z.length) st else .bad
  | _ => .bad)
 | .listB => (match ds with | [d] => (match Cn st d with | some xs => .ok (.loc st.length) (st ++ [.lst xs]) | none => .bad) | _ => .bad)
 | .tupleB => (match ds with | [d] => (match Cn st d with | some xs => .ok (.tup xs) st | none => .bad) | _ => .bad)
 | .minB => (match ds with | [.int i, .int j] => .ok (.int (if j < i then j else i)) st | _ => .bad)
 | .maxB => (match ds with | [.int i, .int j] => .ok (.int (if j > i then j else i)) st | _ => .bad)
 | .allB => (match ds with | [.loc n] => (match (af st n).bind Dg with | some bs => .ok (.bl (bs.all id)) st | none => .bad) | _ => .bad)
 | .lenSetB => (match ds with | [.loc n] => (match af st n with | some xs => if xs.all Bv = true ∧ xs.length < 4000 then .ok (.int (fz xs).length) st else .bad | none => .bad) | _ => .bad)
 | .anyB => (match ds with | [.loc n] => (match (af st n).bind Dg with | some bs => .ok (.bl (bs.any id)) st | none => .bad) | _ => .bad)
noncomputable def ia (st : Sto) : D → Bool
 | .loc n => match st[n]? with | some (.lst _) => true | _ => false
 | _ => false
noncomputable def rdy (m : Mt) (st : Sto) (d : D) : Bool := match m with
 | .get => (match d with | .loc n => (Az st n).isSome | _ => false)
 | .upd => (match d with | .loc n => (Az st n).isSome | _ => false)
 | .sdef => (match d with | .loc n => (Az st n).isSome | _ => false)
 | .vals => (match d with | .loc n => (Az st n).isSome | _ => false)
 | .keysL => (match d with | .loc n => (Az st n).isSome | _ => false)
 | .copyD => (match d with | .loc n => (Az st n).isSome | _ => false)
 | .popk => (match d with | .loc n => (Az st n).isSome | _ => false)
 | .popD => (match d with | .loc n => (Az st n).isSome | _ => false)
 | .rev => (match d with | .loc n => (af st n).isSome | _ => false)
 | .upper => (match d with | .str _ => true | _ => false)
 | _ => ia st d
noncomputable def cu (kvs more : List (D × D)) : List (D × D) := more.foldl (fun acc kv => bx acc kv.1 kv.2) kvs
noncomputable def mtD (m : Mt) (o : D) (ds : List D) (st : Sto) : Res D := match m with
 | .append => (match o, ds with
  | .loc n, [d] => (match st[n]? with
   | some (.lst xs) => if xs.length < sizeLine then .ok .non (st.set n (.lst (xs ++ [d]))) else .bad
   | _ => .bad)
  | _, _ => .bad)
 | .clear => (match o, ds with
  | .loc n, [] => (match st[n]? with
   | some (.lst xs) => .ok .non (st.set n (.lst []))
   | _ => .bad)
  | _, _ => .bad)
 | .get => (match o with
  | .loc n => (match Az st n with
   | some kvs => (match ds with
    | [k] => if Bv k then .ok ((Co kvs k).getD .non) st else .bad
    | [k, x] => if Bv k then .ok ((Co kvs k).getD x) st else .bad
    | _ => .bad)
   | none => .bad)
  | _ => .bad)
 | .upd => (match o, ds with
  | .loc n, [.loc m] => (match Az st n, Az st m with
   | some kvs, some more => if n ≠ m ∧ kvs.length + more.length ≤ sizeLine then .ok .non (st.set n (.dct (cu kvs more))) else .bad
   | _, _ => .bad)
  | _, _ => .bad)
 | .sdef => (match o, ds with
  | .loc n, [k, x] => (match Az st n with
   | some kvs => if Bv k = true ∧ kvs.length < sizeLine then (match Co kvs k with | some d => .ok d st | none => .ok x (st.set n (.dct (bx kvs k x)))) else .bad
   | none => .bad)
  | _, _ => .bad)
 | .vals => (match o, ds with
  | .loc n, [] => (match Az st n with
   | some kvs => .ok (.loc st.length) (st ++ [.lst (kvs.map (·.2))])
   | none => .bad)
  | _, _ => .bad)
 | .keysL => (match o, ds with
  | .loc n, [] => (match Az st n with
   | some kvs => .ok (.loc st.length) (st ++ [.lst (kvs.map (·.1))])
   | none => .bad)
  | _, _ => .bad)
 | .copyD => (match o, ds with
  | .loc n, [] => (match Az st n with
   | some kvs => .ok (.loc st.length) (st ++ [.dct kvs])
   | none => .bad)
  | _, _ => .bad)
 | .rev => (match o, ds with
  | .loc n, [] => (match af st n with
   | some xs => .ok (.loc st.length) (st ++ [.lst xs.reverse])
   | none => .bad)
  | _, _ => .bad)
 | .pop => (match o, ds with
  | .loc n, [] => (match st[n]? with
   | some (.lst xs) => (match xs.getLast? with | some d => .ok d (st.set n (.lst xs.dropLast)) | none => .bad)
   | _ => .bad)
  | _, _ => .bad)
 | .upper => (match o, ds with
  | .str x, [] => if (Txt.upper x).length ≤ sizeLine then .ok (.str (Txt.upper x)) st else .bad
  | _, _ => .bad)
 | _ => .bad
noncomputable def subB : String → String → Option Bool := fun t c => if t = c then some true else if t = "bool" ∧ c = "int" then some true else if c = "bool" ∨ c = "int" ∨ c = "tuple" ∨ c = "list" ∨ c = "str" ∨ c = "dict" then some false else none
noncomputable def cg (tab : Nat → Ty → Option Bool) : Ty → Ty → Option Bool
 | .b t, .b c => subB t c
 | .b _, .o _ => none
 | .o n, c => tab n c
end DD
namespace DD
open PySem
abbrev Or := Nat → List D → Sto → Res D
section
variable (tab : Nat → Ty → Option Bool) (call : Or)
noncomputable def bw (env : Env) (i : Nat) : Option D := (env[i]?).join
noncomputable def br : List Nat → List D → Env → Option Env
 | [], [], env => some env
 | i :: r, d :: t, env => if i < env.length then br r t (env.set i (some d)) else none
 | _, _, _ => none
noncomputable def store (tg : List Nat) (one : Bool) (d : D) (env : Env) : Option Env := if one then br tg [d] env else match d with
 | .tup ds => br tg ds env
 | _ => none
noncomputable def fh (k : Bool) (st : Sto) : D → Option (List D × Option Nat)
 | .tup ds => if k then some (ds, none) else none
 | .loc n => if k then none else (af st n).map fun ds => (ds, some n)
 | _ => none
noncomputable def stays (st : Sto) (p : Option Nat) (ds : List D) : Bool := match p with
 | none => true
 | some n => decide (af st n = some ds)
noncomputable def Br (lo : Int) (n : Nat) : List D := (List.range n).map fun k => .int (lo + (k : Nat))
noncomputable def Dt (ds : List D) : Option (List D) := match ds with
 | [.int j] => if -(2 ^ 62) ≤ j ∧ j < 2 ^ 62 then some (Br 0 j.toNat) else none
 | [.int i, .int j] => if -(2 ^ 62) ≤ i ∧ i < 2 ^ 62 ∧ -(2 ^ 62) ≤ j ∧ j < 2 ^ 62 then some (Br i (j - i).toNat) else none
 | _ => none
noncomputable def compLoop (all : List D) (p : Option Nat) (n0 : Nat) (body : D → Sto → Res (Option D)) : List D → Sto → Res Unit
  | [], st => if stays st p all then .ok () st else .bad
  | d :: r, st => if stays st p all then (match body d st with
      | .ok (some y) st' => (match st'[n0]? with
        | some (.lst ys) => if ys.length < sizeLine then compLoop all p n0 body r (st'.set n0 (.lst (ys ++ [y]))) else .bad
        | _ => .bad)
      | .ok none st' => compLoop all p n0 body r st'
      | _ => .bad)
    else .bad
noncomputable def Bg (all : List D) (p : Option Nat) (n0 : Nat) (body : D → Sto → Res (Option (D × D))) : List D → Sto → Res Unit
  | [], st => if stays st p all then .ok () st else .bad
  | d :: r, st => if stays st p all then (match body d st with
      | .ok (some (k, y)) st' => (match st'[n0]? with
        | some (.dct kvs) => if kvs.length < sizeLine ∧ Bv k = true then Bg all p n0 body r (st'.set n0 (.dct (bx kvs k y))) else .bad
        | _ => .bad)
      | .ok none st' => Bg all p n0 body r st'
      | _ => .bad)
    else .bad
noncomputable def Bi (k : Nat) (st : Sto) (d : D) : Option (List D × Option Nat) := match k, d with
 | 0, .loc n => (af st n).map fun ds => (ds, some n)
 | 1, .tup ds => some (ds, none)
 | 2, .tup ds => (Dt ds).map fun xs => (xs, none)
 | 3, .str z => if z.length ≤ sizeLine then some (z.cps.toList.map fun c => .str ⟨#[c]⟩, none) else none
 | _, _ => none
noncomputable def bj (nl : Nat) (fv : List Nat) (env : Env) : Env := List.replicate nl none ++ fv.map (bw env)
mutual
noncomputable def Aa : E → Env → Sto → Res D
  | .var i, env, st => match bw env i with | some d => .ok d st | none => .bad
  | .cst d, _, st => .ok d st
  | .tupE es, env, st => (Ap es env st).bind fun ds st => if ds.length ≤ sizeLine then .ok (.tup ds) st else .bad
  | .lstE es, env, st => (Ap es env st).bind fun ds st => if ds.length ≤ sizeLine then .ok (.loc st.length) (st ++ [.lst ds]) else .bad
  | .op o a b, env, st => (Aa a env st).bind fun x st => (Aa b env st).bind fun y st => opD o x y st
  | .neg a, env, st => (Aa a env st).bind fun x st => match x with | .int i => .ok (.int (-i)) st | _ => .bad
  | .cm c a b, env, st => (Aa a env st).bind fun x st => (Aa b env st).bind fun y st => cmD c x y st
  | .andE a b, env, st => (Aa a env st).bind fun x st => match x with | .bl true => Aa b env st | .bl false => .ok (.bl false) st | _ => .bad
  | .orE a b, env, st => (Aa a env st).bind fun x st => match x with | .bl true => .ok (.bl true) st | .bl false => Aa b env st | _ => .bad
  | .notE a, env, st => (Aa a env st).bind fun x st => match x with | .bl b => .ok (.bl (!b)) st | _ => .bad
  | .ifE c a b, env, st => (Aj c env st).bind fun x st => if x then Aa a env st else Aa b env st
  | .call f es dv, env, st => (Ap es env st).bind fun ds st => call f (ds ++ dv) st
  | .bt f es, env, st => (Ap es env st).bind fun ds st => btD f ds st
  | .ix a b, env, st => (Aa a env st).bind fun x st => (Aa b env st).bind fun y st => ixD x y st
  | .isi a t, env, st => (Aa a env st).bind fun x st => match (Bn st x).bind fun u => cg tab u t with | some b => .ok (.bl b) st | none => .bad
  | .dnew, _, st => .ok (.loc st.length) (st ++ [.dct []])
  | .dnewN, _, st => .ok (.loc st.length) (st ++ [.dcn []])
  | .sl k a es, env, st => (Aa a env st).bind fun x st => (du es env st).bind fun ds st => slD k x ds st
  | .chn c1 c2 a b c, env, st => (Aa a env st).bind fun x st => (Aa b env st).bind fun y st => (cmD c1 x y st).bind fun z st => match z with | .bl true => (Aa c env st).bind fun w st => cmD c2 y w st | .bl false => .ok (.bl false) st | _ => .bad
  | .fld c o f, env, st => (Aa o env st).bind fun x st => match x with
      | .loc n => match st[n]? with | some (.ins c' fs) => (match fs.lookup f with | some d => if c' = c then .ok d st else .bad | none => .bad) | _ => .bad
      | _ => .bad
  | .mk c f es, env, st => (Ap es env st).bind fun ds st => (call f (.loc st.length :: ds) (st ++ [.ins c []])).bind fun r st' => match r with | .non => .ok (.loc st.length) st' | _ => .bad
  | .Ka c f m o es, env, st => (Aa o env st).bind fun x st => match x with
      | .loc n => match st[n]? with | some (.ins c' fs) => if c' = c ∧ fs.lookup m = none then (Ap es env st).bind fun ds st => call f (.loc n :: ds) st else .bad | _ => .bad
      | _ => .bad
  | .callV f es, env, st => (Aa f env st).bind fun x st => match x with
      | .loc n => match st[n]? with | some (.fnc i) => (Ap es env st).bind fun ds st => call i ds st | _ => .bad
      | _ => .bad
  | .mt m o es, env, st => (Aa o env st).bind fun x st => if rdy m st x then (Ap es env st).bind fun ds st => mtD m x ds st else .bad
  | .dcomp n one nl tg fv it ifs kx vx, env, st => (Aa it env st).bind fun d st => match Bi n st d with
      | some (xs, p) => (Bg xs p st.length (fun d st => match store tg one d (bj nl fv env) with
          | some env' => (Bj ifs env' st).bind fun b st => if b then (Aa kx env' st).bind fun k st => (Aa vx env' st).bind fun y st => .ok (some (k, y)) st else .ok none st
          | none => .bad) xs (st ++ [.dct []])).bind fun _ st' => .ok (.loc st.length) st'
      | none => .bad
  | .comp n one nl tg fv it ifs elt, env, st => (Aa it env st).bind fun d st => match Bi n st d with
      | some (xs, p) => (compLoop xs p st.length (fun d st => match store tg one d (bj nl fv env) with
          | some env' => (Bj ifs env' st).bind fun b st => if b then (Aa elt env' st).bind fun y st => .ok (some y) st else .ok none st
          | none => .bad) xs (st ++ [.lst []])).bind fun _ st' => .ok (.loc st.length) st'
      | none => .bad
noncomputable def Bj : Es → Env → Sto → Res Bool
 | .nil, _, st => .ok true st
 | .cons c r, env, st => (Aj c env st).bind fun b st => if b then Bj r env st else .ok false st
noncomputable def du : Es → Env → Sto → Res (List D)
 | .nil, _, st => .ok [] st
 | .cons e es, env, st => (Aa e env st).bind fun d st => match d with | .int _ => (du es env st).bind fun ds st => .ok (d :: ds) st | _ => .bad
noncomputable def Ap : Es → Env → Sto → Res (List D)
 | .nil, _, st => .ok [] st
 | .cons e es, env, st => (Aa e env st).bind fun d st => (Ap es env st).bind fun ds st => .ok (d :: ds) st
noncomputable def Aj : E → Env → Sto → Res Bool
 | .andE a b, env, st => (Aj a env st).bind fun x st => if x then Aj b env st else .ok false st
 | .orE a b, env, st => (Aj a env st).bind fun x st => if x then .ok true st else Aj b env st
 | .notE a, env, st => (Aj a env st).bind fun x st => .ok (!x) st
 | .var i, env, st => match bw env i with | some d => (match truth st d with | some b => .ok b st | none => .bad) | none => .bad
 | .cst d, env, st => match truth st d with | some b => .ok b st | none => .bad
 | .cm c a b, env, st => (Aa a env st).bind fun x st => (Aa b env st).bind fun y st => (cmD c x y st).bind fun d st => match d with | .bl b => .ok b st | _ => .bad
 | .call f es dv, env, st => (Ap es env st).bind fun ds st => (call f (ds ++ dv) st).bind fun d st => match truth st d with | some b => .ok b st | none => .bad
 | .bt f es, env, st => (Ap es env st).bind fun ds st => (btD f ds st).bind fun d st => match truth st d with | some b => .ok b st | none => .bad
 | .ix a b, env, st => (Aa a env st).bind fun x st => (Aa b env st).bind fun y st => (ixD x y st).bind fun d st => match truth st d with | some b => .ok b st | none => .bad
 | .isi a t, env, st => (Aa a env st).bind fun x st => match (Bn st x).bind fun u => cg tab u t with | some b => .ok b st | none => .bad
 | .chn c1 c2 a b c, env, st => (Aa a env st).bind fun x st => (Aa b env st).bind fun y st => (cmD c1 x y st).bind fun z st => match z with | .bl true => (Aa c env st).bind fun w st => (cmD c2 y w st).bind fun d st => (match d with | .bl b => .ok b st | _ => .bad) | .bl false => .ok false st | _ => .bad
 | _, _, _ => .bad
end
inductive Fl where
 | next (env : Env) | ret (d : D) | brk (env : Env) | cont (env : Env)
noncomputable def forLoop (all : List D) (p : Option Nat) (body : D → Env → Sto → Res Fl) : List D → Env → Sto → Res Fl
  | [], env, st => if stays st p all then .ok (.next env) st else .bad
  | d :: r, env, st => if stays st p all then (body d env st).bind fun f st' => match f with
      | .next env' => forLoop all p body r env' st'
      | .cont env' => forLoop all p body r env' st'
      | .brk env' => .ok (.next env') st'
      | .ret x => .ok (.ret x) st'
    else .bad
noncomputable def whileLoop (test : Env → Sto → Res Bool) (body : Env → Sto → Res Fl) : Nat → Env → Sto → Res Fl
  | 0, _, _ => .bad
  | F + 1, env, st => (test env st).bind fun b st => if b then (body env st).bind fun f st' => match f with
      | .next env' => whileLoop test body F env' st'
      | .cont env' => whileLoop test body F env' st'
      | .brk env' => .ok (.next env') st'
      | .ret x => .ok (.ret x) st'
    else .ok (.next env) st
noncomputable def blank (env : Env) (i : Nat) (d : D) : Env := (List.replicate env.length none).set i (some d)
mutual
noncomputable def ai (F : Nat) : S → Env → Sto → Res Fl
  | .pass, env, st => .ok (.next env) st
  | .set i e, env, st => (Aa tab call e env st).bind fun d st => if i < env.length then .ok (.next (env.set i (some d))) st else .bad
  | .unp is e, env, st => (Aa tab call e env st).bind fun d st => match store is false d env with | some env' => .ok (.next env') st | none => .bad
  | .unpL is e, env, st => (Aa tab call e env st).bind fun d st => match d with
      | .loc n => match af st n with | some ds => (match br is ds env with | some env' => .ok (.next env') st | none => .bad) | none => .bad
      | _ => .bad
  | .par i j a b, env, st => (Aa tab call a env st).bind fun x st => (Aa tab call b env st).bind fun y st => if i < env.length ∧ j < env.length then .ok (.next ((env.set i (some x)).set j (some y))) st else .bad
  | .aug i o e, env, st => match bw env i with
      | some (.int x) => (Aa tab call e env st).bind fun y st => match y with
        | .int j => (opD o (.int x) (.int j) st).bind fun z st => if i < env.length then .ok (.next (env.set i (some z))) st else .bad
        | _ => .bad
      | _ => .bad
  | .setf c o f e, env, st => (Aa tab call e env st).bind fun y st => (Aa tab call o env st).bind fun x st => match x with
      | .loc n => match st[n]? with | some (.ins c' fs) => if fs.length < 900 ∧ c' = c then .ok (.next env) (st.set n (.ins c (Ct f y fs))) else .bad | _ => .bad
      | _ => .bad
  | .dput d k v, env, st => (Aa tab call v env st).bind fun y st => (Aa tab call d env st).bind fun x st => (Aa tab call k env st).bind fun kk st => match x with
      | .loc n => match Az st n with
        | some kvs => if Bv kk = true ∧ kvs.length < sizeLine then .ok (.next env) (st.set n (.dct (bx kvs kk y))) else .bad
        | none => match dt st n with
          | some kvs => if Jm kk = true ∧ kvs.length < sizeLine then .ok (.next env) (st.set n (.dcn (bx kvs kk y))) else .bad
          | none => match st[n]?, kk with
            | some (.lst xs), .int i => if 0 ≤ i ∧ i < xs.length then .ok (.next env) (st.set n (.lst (xs.set i.toNat y))) else .bad
            | _, _ => .bad
      | _ => .bad
  | .ifS c a b, env, st => (Aj tab call c env st).bind fun x st => if x then ag F a env st else ag F b env st
  | .whileS c b, env, st => whileLoop (Aj tab call c) (ag F b) F env st
  | .forR tg es b, env, st => (Ap tab call es env st).bind fun ds st => match Dt ds with
      | some xs => forLoop xs none (fun d env st => match store tg true d env with | some env' => ag F b env' st | none => .bad) xs env st
      | none => .bad
  | .forS tg one k it b, env, st => (Aa tab call it env st).bind fun d st => match fh k st d with
      | some (xs, p) => forLoop xs p (fun d env st => match store tg one d env with | some env' => ag F b env' st | none => .bad) xs env st
      | none => .bad
  | .ret e, env, st => (Aa tab call e env st).bind fun d st => .ok (.ret d) st
  | .retN, _, st => .ok (.ret .non) st
  | .ex e, env, st => (Aa tab call e env st).bind fun _ st => .ok (.next env) st
  | .raiseS c, _, st => .exc c st
  | .tryS b c i h, env, st => match ag F b env st with
      | .exc k st' => match tab k (.o c) with
        | some true => if i < env.length then (match ag F h (blank env i (.loc st'.length)) (st' ++ [.exn k]) with
            | .ok (.next env2) st'' => .ok (.next (env2.set i none)) st''
            | .ok (.ret d) st'' => .ok (.ret d) st''
            | _ => .bad)
          else .bad
        | _ => .bad
      | r => r
noncomputable def ag (F : Nat) : Ss → Env → Sto → Res Fl
  | .nil, env, st => .ok (.next env) st
  | .cons s r, env, st => (ai F s env st).bind fun f st => match f with
      | .next env' => ag F r env' st
      | f => .ok f st
end
end
structure Fn where
 np : Nat
 nl : Nat
 body : Ss
noncomputable def fin (r : Res Fl) : Res D := r.bind fun f st => match f with
 | .next _ => .ok .non st
 | .ret d => .ok d st
 | _ => .bad
noncomputable def Cg (tab : Nat → Ty → Option Bool) (fns : List Fn) (F : Nat) : Nat → Or
 | 0 => fun _ _ _ => .bad
 | n + 1 => fun f args st => match fns[f]? with
  | some fn => if args.length = fn.np ∧ fn.np ≤ fn.nl then fin (ag tab (Cg tab fns F n) F fn.body (args.map some ++ List.replicate (fn.nl - fn.np) none) st) else .bad
  | none => .bad
end DD
namespace DD
open PySem L2
structure CW where
 w : World
 f : Nat → Addr
instance : CoeFun CW (fun _ => Nat → Addr) := ⟨CW.f⟩
section
variable (K : PySem.W.Frag)
mutual
def Rep (rho : List Addr) (H : Hp) : D → V → Prop
 | .non, v => v = .non
 | .bl b, v => v = .bl b
 | .int i, v => v = .int i
 | .str x, v => v = .str x
 | .tup ds, v => ∃ a vs, v = .ref a ∧ SqT K H a vs ∧ RepL rho H ds vs
 | .loc n, v => ∃ a, rho[n]? = some a ∧ v = .ref a
def RepL (rho : List Addr) (H : Hp) : List D → List V → Prop
 | [], vs => vs = []
 | d :: r, vs => ∃ v t, vs = v :: t ∧ Rep rho H d v ∧ RepL rho H r t
end
structure Keep (rho : List Addr) (H : Hp) (rho' : List Addr) (H' : Hp) : Prop where
 ext : ∃ m, rho' = rho ++ m
 tup : ∀ a xs, SqT K H a xs → SqT K H' a xs
variable {K}
theorem Keep.refl (rho : List Addr) (H : Hp) : Keep K rho H rho H := ⟨⟨[], by simp⟩, fun _ _ h => h⟩
theorem Keep.trans {r1 r2 r3 : List Addr} {H1 H2 H3 : Hp} (a : Keep K r1 H1 r2 H2) (b : Keep K r2 H2 r3 H3) : Keep K r1 H1 r3 H3 := by
 obtain ⟨⟨m, rfl⟩, p⟩ := a
 obtain ⟨⟨k, rfl⟩, q⟩ := b
 exact ⟨⟨m ++ k, by simp⟩, fun a xs h => q a xs (p a xs h)⟩
theorem Keep.at {r1 r2 : List Addr} {H1 H2 : Hp} (k : Keep K r1 H1 r2 H2) {n : Nat} {a : Addr} (h : r1[n]? = some a) : r2[n]? = some a := by
 obtain ⟨⟨m, rfl⟩, _⟩ := k
 have : n < r1.length := (List.getElem?_eq_some_iff.mp h).1
 rw [List.getElem?_append_left this]; exact h
mutual
theorem Rep.mono {r1 r2 : List Addr} {H1 H2 : Hp} (k : Keep K r1 H1 r2 H2) : ∀ {d : D} {v : V}, Rep K r1 H1 d v → Rep K r2 H2 d v
 | .non, v, h => by simpa [Rep] using h
 | .bl b, v, h => by simpa [Rep] using h
 | .int b, v, h => by simpa [Rep] using h
 | .str b, v, h => by simpa [Rep] using h
 | .tup ds, v, h => by
  simp only [Rep] at h ⊢
  obtain ⟨a, vs, e, q, r⟩ := h
  exact ⟨a, vs, e, k.tup a vs q, RepL.mono k r⟩
 | .loc n, v, h => by
  simp only [Rep] at h ⊢
  obtain ⟨a, e, q⟩ := h
  exact ⟨a, k.at e, q⟩
theorem RepL.mono {r1 r2 : List Addr} {H1 H2 : Hp} (k : Keep K r1 H1 r2 H2) : ∀ {d : List D} {v : List V}, RepL K r1 H1 d v → RepL K r2 H2 d v
 | [], v, h => by simpa [RepL] using h
 | x :: r, v, h => by
  simp only [RepL] at h ⊢
  obtain ⟨y, t, e, p, q⟩ := h
  exact ⟨y, t, e, Rep.mono k p, RepL.mono k q⟩
end
theorem RepL.length : ∀ {ds : List D} {vs : List V}, RepL K r H ds vs → ds.length = vs.length
 | [], vs, h => by simp only [RepL] at h; subst h; rfl
 | x :: t, vs, h => by
  simp only [RepL] at h
  obtain ⟨y, u, rfl, _, q⟩ := h
  simp [RepL.length q]
theorem RepL.get : ∀ {ds : List D} {vs : List V} {i : Nat} {d : D}, RepL K r H ds vs → ds[i]? = some d → ∃ v, vs[i]? = some v ∧ Rep K r H d v
 | [], vs, i, d, h, e => by simp at e
 | x :: t, vs, 0, d, h, e => by
  simp only [RepL] at h
  obtain ⟨y, u, rfl, p, q⟩ := h
  simp at e; subst e
  exact ⟨y, rfl, p⟩
 | x :: t, vs, i + 1, d, h, e => by
  simp only [RepL] at h
  obtain ⟨y, u, rfl, p, q⟩ := h
  simp at e
  obtain ⟨v, e1, e2⟩ := RepL.get q e
  exact ⟨v, by simpa using e1, e2⟩
theorem RepL.append : ∀ {ds es : List D} {vs us : List V}, RepL K r H ds vs → RepL K r H es us → RepL K r H (ds ++ es) (vs ++ us)
 | [], es, vs, us, h, g => by simp only [RepL] at h; subst h; simpa using g
 | x :: t, es, vs, us, h, g => by
  simp only [RepL] at h
  obtain ⟨y, u, rfl, p, q⟩ := h
  show RepL K r H (x :: (t ++ es)) (y :: (u ++ us))
  simp only [RepL]
  exact ⟨y, u ++ us, rfl, p, RepL.append q g⟩
theorem RepL.rep (h : RepL K r H ds vs) : ∀ k : Nat, RepL K r H (List.replicate k ds).flatten (List.replicate k vs).flatten
 | 0 => by simp [RepL]
 | k + 1 => by
  rw [List.replicate_succ, List.replicate_succ, List.flatten_cons, List.flatten_cons]
  exact h.append (RepL.rep h k)
theorem Bq.keep (s : Bq H H') (rho : List Addr) : Keep K rho H rho H' := ⟨⟨[], by simp⟩, fun a xs h => by
 rcases h with h | h
 · rcases h with h | ⟨o, h⟩
   · exact .inl (.inl (s _ _ h))
   · exact .inl (.inr ⟨o, s _ _ h⟩)
 · exact .inr h⟩
theorem Fh (h : H p = none) (o : HO) : Bq H (upd H p o) := fun b u q => by rw [Ax (Gj q h)]; exact q
variable (K) (cls : CW)
def Gq (a : Addr) (c : Value) : Heap → Prop := fun h => ∃ o vs, h.get? a = some o ∧ o.cls = c ∧ o.data = .fields vs
def Fi (rho : List Addr) (H : Hp) (fs : List (Str × D)) (ws : List (Str × V)) : Prop := ∀ f, match fs.lookup f, ws.lookup f with
 | some d, some v => Rep K rho H d v
 | none, none => True
 | _, _ => False
def kD : D → Option Key
 | .int i => some (.inl i)
 | .str x => some (.inr x)
 | _ => none
def Aq (rho : List Addr) (H : Hp) : List (D × D) → List (Key × V) → Prop
 | [], ws => ws = []
 | (k, d) :: r, ws => ∃ k' v t, ws = (k', v) :: t ∧ kD k = some k' ∧ Rep K rho H d v ∧ Aq rho H r t
def Xq (H : Hp) (a : Addr) (xs : List V) : Prop := (∃ o, H a = some (.frz o (.lst xs))) ∨
    ∃ (o : Obj) (its : Array Value) (n : Nat), K.lookup a = some o ∧ o.cls = .type "list" ∧ o.dict = none ∧ o.data = .seq its n ∧ its.size ≤ sizeLine ∧ Vals xs its.toList
def trk : Cell → Bool
 | .frz _ => false
 | _ => true
def fj (rho : List Addr) (H : Hp) (a : Addr) : Cell → Prop
 | .lst ds => ∃ vs, H a = some (.lst vs) ∧ RepL K rho H ds vs
 | .frz ds => ∃ vs, Xq K H a vs ∧ RepL K rho H ds vs
 | .dct kvs => ∃ ws, H a = some (.dK ws) ∧ Aq K rho H kvs ws
 | .dcn _ => False
 | .dcf _ => False
 | .fnc _ => False
 | .ins c fs => ∃ dx ws, H a = some (.ins (cls c) dx ws) ∧ ws.length = fs.length ∧ Fi K rho H fs ws
 | .exn c => H a = some (.ext (Gq a (.ref (cls c))))
structure StoRep (rho : List Addr) (st : Sto) (H : Hp) : Prop where
 len : rho.length = st.length
 nd : ∀ (n m : Nat) (a : Addr) (c d : Cell), rho[n]? = some a → rho[m]? = some a → st[n]? = some c → st[m]? = some d → trk c = true → trk d = true → n = m
 cells : ∀ (n : Nat) (a : Addr) (c : Cell), rho[n]? = some a → st[n]? = some c → fj K cls rho H a c
structure EnvRep (rho : List Addr) (H : Hp) (env : Env) (sg : St) : Prop where
 len : env.length = sg.length
 val : ∀ (i : Nat) (d : D), env[i]? = some (some d) → ∃ v, sg[i]? = some (some v) ∧ Rep K rho H d v
variable {K cls}
theorem Fi.mono {r1 r2 : List Addr} {H1 H2 : Hp} (k : Keep K r1 H1 r2 H2) {fs : List (Str × D)} {ws : List (Str × V)} (h : Fi K r1 H1 fs ws) : Fi K r2 H2 fs ws := fun f => by
 have q := h f
 revert q
 cases fs.lookup f <;> cases ws.lookup f <;> intro q <;> first | trivial | exact q.elim | exact Rep.mono k q
theorem Aq.mono {r1 r2 : List Addr} {H1 H2 : Hp} (k : Keep K r1 H1 r2 H2) : ∀ {kvs : List (D × D)} {ws : List (Key × V)}, Aq K r1 H1 kvs ws → Aq K r2 H2 kvs ws
 | [], ws, h => by simpa [Aq] using h
 | (x, d) :: r, ws, h => by
  simp only [Aq] at h ⊢
  obtain ⟨k', v, t, e, p, q, w⟩ := h
  exact ⟨k', v, t, e, p, Rep.mono k q, Aq.mono k w⟩
theorem fj.stay (k : Keep K r1 H1 r2 H2) (h : fj K cls r1 H1 a c) (e : ∀ o, H1 a = some o → H2 a = some o) : fj K cls r2 H2 a c := by
 cases c with
 | lst ds => obtain ⟨vs, p, q⟩ := h; exact ⟨vs, e _ p, q.mono k⟩
 | frz ds =>
  obtain ⟨vs, p, q⟩ := h
  refine ⟨vs, ?_, q.mono k⟩
  rcases p with ⟨o, p⟩ | p
  · exact .inl ⟨o, e _ p⟩
  · exact .inr p
 | dct kvs => obtain ⟨ws, p, q⟩ := h; exact ⟨ws, e _ p, q.mono k⟩
 | dcn kvs => exact h.elim
 | dcf kvs => exact h.elim
 | fnc i => exact h.elim
 | ins c fs => obtain ⟨dx, ws, p, l, q⟩ := h; exact ⟨dx, ws, e _ p, l, q.mono k⟩
 | exn c => exact e _ h
theorem fj.some (h : fj K cls r H a c) (t : trk c = true) : ∃ o, H a = some o := by
 cases c with
 | lst ds => obtain ⟨vs, p, q⟩ := h; exact ⟨_, p⟩
 | frz ds => cases t
 | dct kvs => obtain ⟨ws, p, q⟩ := h; exact ⟨_, p⟩
 | dcn kvs => exact h.elim
 | dcf kvs => exact h.elim
 | fnc i => exact h.elim
 | ins c fs => obtain ⟨dx, ws, p, q⟩ := h; exact ⟨_, p⟩
 | exn c => exact ⟨_, h⟩
theorem StoRep.same (s : StoRep K cls rho st H) (e : Bq H H') : StoRep K cls rho st H' :=
 ⟨s.len, s.nd, fun n a c p q => (s.cells n a c p q).stay (Bq.keep e rho) (fun o h => e _ _ h)⟩
theorem EnvRep.mono {r1 r2 : List Addr} {H1 H2 : Hp} (k : Keep K r1 H1 r2 H2) {env : Env} {sg : St} (h : EnvRep K r1 H1 env sg) : EnvRep K r2 H2 env sg :=
 ⟨h.len, fun i d e => let ⟨v, p, q⟩ := h.val i d e; ⟨v, p, q.mono k⟩⟩
theorem EnvRep.set (h : EnvRep K rho H env sg) (i : Nat) (r : Rep K rho H d v) : EnvRep K rho H (env.set i (some d)) (sg.set i (some v)) := by
 refine ⟨by simp [h.len], fun j x e => ?_⟩
 rw [List.getElem?_set] at e ⊢
 have hl := h.len
 by_cases ij : i = j
 · subst ij
   rw [if_pos rfl] at e ⊢
   by_cases hi : i < env.length
   · rw [if_pos hi] at e
     rw [if_pos (by omega)]
     cases e
     exact ⟨v, rfl, r⟩
   · rw [if_neg hi] at e; cases e
 · rw [if_neg ij] at e ⊢
   exact h.val j x e
theorem StoRep.laid (s : StoRep K cls rho st H) (hp : H p = none) (hc : fj K cls (rho ++ [p]) (upd H p o) p c) :
    Keep K rho H (rho ++ [p]) (upd H p o) ∧ StoRep K cls (rho ++ [p]) (st ++ [c]) (upd H p o) := by
  have e := Fh hp o
  have k : Keep K rho H (rho ++ [p]) (upd H p o) := ⟨⟨[p], rfl⟩, (Bq.keep e rho).tup⟩
  have old : ∀ (n : Nat) (x : Cell), rho[n]? = some p → st[n]? = some x → trk x = true → False := fun n x h1 h2 ht => by
    obtain ⟨u, hu⟩ := (s.cells n p x h1 h2).some ht
    rw [hp] at hu; cases hu
  have at_lt : ∀ (n : Nat) (a : Addr) (x : Cell), (rho ++ [p])[n]? = some a → (st ++ [c])[n]? = some x → (n < rho.length ∧ rho[n]? = some a ∧ st[n]? = some x) ∨ (n = rho.length ∧ a = p ∧ x = c) := fun n a x h1 h2 => by
    by_cases hn : n < rho.length
    · rw [List.getElem?_append_left hn] at h1
      rw [List.getElem?_append_left (by rw [← s.len]; exact hn)] at h2
      exact .inl ⟨hn, h1, h2⟩
    · have hn' : n = rho.length := by
        have := (List.getElem?_eq_some_iff.mp h1).1
        simp at this; omega
      subst hn'
      rw [List.getElem?_append_right (Nat.le_refl _)] at h1
      rw [s.len, List.getElem?_append_right (Nat.le_refl _)] at h2
      simp at h1 h2
      exact .inr ⟨rfl, h1.symm, h2.symm⟩
  refine ⟨k, by simp [s.len], fun n m a x y h1 h2 h3 h4 t1 t2 => ?_, fun n a x h1 h2 => ?_⟩
  · rcases at_lt n a x h1 h3 with ⟨_, g1, g2⟩ | ⟨e1, e2, e3⟩
    · rcases at_lt m a y h2 h4 with ⟨_, g3, g4⟩ | ⟨f1, f2, f3⟩
      · exact s.nd n m a x y g1 g3 g2 g4 t1 t2
      · subst f2; exact (old n x g1 g2 t1).elim
    · rcases at_lt m a y h2 h4 with ⟨_, g3, g4⟩ | ⟨f1, f2, f3⟩
      · subst e2; exact (old m y g3 g4 t2).elim
      · omega
  · rcases at_lt n a x h1 h2 with ⟨_, g1, g2⟩ | ⟨e1, e2, e3⟩
    · exact (s.cells n a x g1 g2).stay k fun u hu => e _ _ hu
    · subst e2 e3; exact hc
theorem StoRep.wroteC (s : StoRep K cls rho st H) (ha : rho[n]? = some a) (hl0 : st[n]? = some c0) (ht0 : trk c0 = true) (hH : H a = some o0) (hno : (∀ xs, o0 ≠ .tup xs) ∧ ∀ u x, o0 ≠ .frz u x) (hc : ∀ H2, H2 a = some o → Keep K rho H rho H2 → fj K cls rho H2 a c1) :
    Keep K rho H rho (upd H a o) ∧ StoRep K cls rho (st.set n c1) (upd H a o) := by
  have k : Keep K rho H rho (upd H a o) := ⟨⟨[], by simp⟩, fun b xs h => by
    rcases h with h | h
    · rcases h with h | ⟨o, h⟩
      · exact .inl (.inl (by rw [Ax (jf h hH (fun z => hno.1 _ z.symm))]; exact h))
      · exact .inl (.inr ⟨o, by rw [Ax (jf h hH (fun z => hno.2 _ _ z.symm))]; exact h⟩)
    · exact .inr h⟩
  refine ⟨k, by simp [s.len], fun m1 m2 b c d h1 h2 h3 h4 t1 t2 => ?_, fun m b c h1 h2 => ?_⟩
  · have tr : ∀ (m : Nat) (c : Cell), (st.set n c1)[m]? = some c → trk c = true → rho[m]? = some b → ∃ c', st[m]? = some c' ∧ trk c' = true := fun m c h t hr => by
      rw [List.getElem?_set] at h
      by_cases e : n = m
      · subst e
        rw [ha] at hr; cases hr
        exact ⟨_, hl0, ht0⟩
      · rw [if_neg e] at h; exact ⟨c, h, t⟩
    obtain ⟨c1, e1, f1⟩ := tr m1 c h3 t1 h1
    obtain ⟨c2, e2, f2⟩ := tr m2 d h4 t2 h2
    exact s.nd m1 m2 b c1 c2 h1 h2 e1 e2 f1 f2
  rw [List.getElem?_set] at h2
  by_cases e : n = m
  · subst e
    rw [if_pos rfl] at h2
    rw [ha] at h1; cases h1
    by_cases hl : n < st.length
    · rw [if_pos hl] at h2; cases h2
      exact hc _ Cb k
    · rw [if_neg hl] at h2; cases h2
  · rw [if_neg e] at h2
    cases ht : trk c with
    | true =>
      have hne : b ≠ a := fun z => by
        subst z
        exact e (s.nd n m b _ c ha h1 hl0 h2 ht0 ht)
      exact (s.cells m b c h1 h2).stay k fun o ho => by rw [Ax hne]; exact ho
    | false =>
      cases c with
      | frz xs =>
        obtain ⟨us, p, q⟩ := s.cells m b (.frz xs) h1 h2
        refine ⟨us, ?_, q.mono k⟩
        rcases p with ⟨o, p⟩ | p
        · exact .inl ⟨o, by rw [Ax (jf p hH (fun z => hno.2 _ _ z.symm))]; exact p⟩
        · exact .inr p
      | _ => cases ht
theorem StoRep.wrote (s : StoRep K cls rho st H) (ha : rho[n]? = some a) (hl0 : st[n]? = some (.lst ds0)) (hH : H a = some (.lst vs)) (hd : RepL K rho H ds ws) :
    Keep K rho H rho (upd H a (.lst ws)) ∧ StoRep K cls rho (st.set n (.lst ds)) (upd H a (.lst ws)) :=
  s.wroteC ha hl0 rfl hH ⟨fun _ => nofun, fun _ _ => nofun⟩ fun H2 e k => ⟨ws, e, hd.mono k⟩
end
end DD
namespace DD
open PySem PySem.Spec L2
structure G where
 K : PySem.W.Frag
 cls : CW
 tab : Nat → Ty → Option Bool
 call : Or
 xk : XK
variable (g : G)
abbrev G.Rep := DD.Rep g.K
abbrev G.RepL := DD.RepL g.K
abbrev G.Keep := DD.Keep g.K
abbrev G.Sto := DD.StoRep g.K g.cls
abbrev G.Env := DD.EnvRep g.K
def RQ {α : Type} (r : Res α) (ok : α → Sto → Prop) (rho : List Addr) (H : Hp) : Prop := match r with
 | .ok a st => ok a st
 | .exc c st => ∀ H' rho', g.Keep rho H rho' H' → g.Sto rho' st H' → g.xk (.ref (g.cls c)) none H'
 | .bad => False
def Al (rho : List Addr) (H : Hp) (Q : VK) (d : D) (st : Sto) : Prop := ∀ v H' rho', g.Keep rho H rho' H' → g.Sto rho' st H' → g.Rep rho' H' d v → Q v H'
def Qb (rho : List Addr) (H : Hp) (Q : List V → Hp → Prop) (d : List D) (st : Sto) : Prop := ∀ v H' rho', g.Keep rho H rho' H' → g.Sto rho' st H' → g.RepL rho' H' d v → Q v H'
def dh (rho : List Addr) (H : Hp) (Q : Bool → Hp → Prop) (b : Bool) (st : Sto) : Prop := ∀ H' rho', g.Keep rho H rho' H' → g.Sto rho' st H' → Q b H'
def tE (e : E) : TE := fun sg H Q => ∃ rho st env, g.Sto rho st H ∧ g.Env rho H env sg ∧ RQ g (Aa g.tab g.call e env st) (Al g rho H Q) rho H
def tEs (e : Es) : TA := fun sg H Q => ∃ rho st env, g.Sto rho st H ∧ g.Env rho H env sg ∧ RQ g (Ap g.tab g.call e env st) (Qb g rho H Q) rho H
def tT (e : E) : TT := fun sg H Q => ∃ rho st env, g.Sto rho st H ∧ g.Env rho H env sg ∧ RQ g (Aj g.tab g.call e env st) (dh g rho H Q) rho H
variable {g}
theorem RQ.bad {α : Type} {ok : α → Sto → Prop} {rho : List Addr} {H : Hp} (h : RQ g (.bad : Res α) ok rho H) : False := h
theorem RQ.mono {α : Type} {r : Res α} {ok ok' : α → Sto → Prop} {rho rho' : List Addr} {H H' : Hp} (k : g.Keep rho H rho' H') (h : RQ g r ok rho H) (ho : ∀ a st, ok a st → ok' a st) : RQ g r ok' rho' H' := by
 cases r with
 | ok a st => exact ho _ _ h
 | exc c st => exact fun H2 r2 k2 s2 => h H2 r2 (k.trans k2) s2
 | bad => exact h
theorem Al.mono {rho rho' : List Addr} {H H' : Hp} {Q : VK} (k : g.Keep rho H rho' H') {d : D} {st : Sto} (h : Al g rho H Q d st) : Al g rho' H' Q d st := fun v H2 r2 k2 => h v H2 r2 (k.trans k2)
theorem dh.mono {rho rho' : List Addr} {H H' : Hp} {Q : Bool → Hp → Prop} (k : g.Keep rho H rho' H') {d : Bool} {st : Sto} (h : dh g rho H Q d st) : dh g rho' H' Q d st := fun H2 r2 k2 => h H2 r2 (k.trans k2)
theorem step {β : Type} {e : E} {env : Env} {sg : St} {st : Sto} {rho : List Addr} {H : Hp} {k : D → Sto → Res β} {ok : β → Sto → Prop} {Q : VK} (s : g.Sto rho st H) (n : g.Env rho H env sg)
    (h : RQ g ((Aa g.tab g.call e env st).bind k) ok rho H)
    (hk : ∀ d st1 v H1 rho1, g.Keep rho H rho1 H1 → g.Sto rho1 st1 H1 → g.Env rho1 H1 env sg → g.Rep rho1 H1 d v → RQ g (k d st1) ok rho1 H1 → Q v H1) : tE g e sg H Q := by
  refine ⟨rho, st, env, s, n, ?_⟩
  revert h
  cases Aa g.tab g.call e env st with
  | ok d st1 => exact fun h v H1 r1 k1 s1 rp => hk d st1 v H1 r1 k1 s1 (n.mono k1) rp (RQ.mono k1 h fun _ _ x => x)
  | exc c st1 => exact fun h => h
  | bad => exact fun h => h
theorem Fj {β : Type} {e : Es} {env : Env} {sg : St} {st : Sto} {rho : List Addr} {H : Hp} {k : List D → Sto → Res β} {ok : β → Sto → Prop} {Q : List V → Hp → Prop} (s : g.Sto rho st H) (n : g.Env rho H env sg)
    (h : RQ g ((Ap g.tab g.call e env st).bind k) ok rho H)
    (hk : ∀ d st1 v H1 rho1, g.Keep rho H rho1 H1 → g.Sto rho1 st1 H1 → g.Env rho1 H1 env sg → g.RepL rho1 H1 d v → RQ g (k d st1) ok rho1 H1 → Q v H1) : tEs g e sg H Q := by
  refine ⟨rho, st, env, s, n, ?_⟩
  revert h
  cases Ap g.tab g.call e env st with
  | ok d st1 => exact fun h v H1 r1 k1 s1 rp => hk d st1 v H1 r1 k1 s1 (n.mono k1) rp (RQ.mono k1 h fun _ _ x => x)
  | exc c st1 => exact fun h => h
  | bad => exact fun h => h
theorem stepT {β : Type} {e : E} {env : Env} {sg : St} {st : Sto} {rho : List Addr} {H : Hp} {k : Bool → Sto → Res β} {ok : β → Sto → Prop} {Q : Bool → Hp → Prop} (s : g.Sto rho st H) (n : g.Env rho H env sg)
    (h : RQ g ((Aj g.tab g.call e env st).bind k) ok rho H)
    (hk : ∀ d st1 H1 rho1, g.Keep rho H rho1 H1 → g.Sto rho1 st1 H1 → g.Env rho1 H1 env sg → RQ g (k d st1) ok rho1 H1 → Q d H1) : tT g e sg H Q := by
  refine ⟨rho, st, env, s, n, ?_⟩
  revert h
  cases Aj g.tab g.call e env st with
  | ok d st1 => exact fun h H1 r1 k1 s1 => hk d st1 H1 r1 k1 s1 (n.mono k1) (RQ.mono k1 h fun _ _ x => x)
  | exc c st1 => exact fun h => h
  | bad => exact fun h => h
variable {X : Cx} {a b c : Expr} {a' b' c' : E} {pos : Pos}
def Sd (g : G) (X : Cx) (e : Expr) (e' : E) : Prop := PE X e (tE g e')
def SdT (g : G) (X : Cx) (e : Expr) (e' : E) : Prop := PT X e (tT g e')
def SdL (g : G) (X : Cx) (es : List Expr) (es' : Es) : Prop := PA X es (tEs g es')
theorem Ay {t t' : TE} {e : Expr} (h : PE X e t) (hi : ∀ sg H Q, t' sg H Q → t sg H Q) : PE X e t' := fun pins s sg H Q I q => h pins s sg H Q I (hi _ _ _ q)
theorem eu (h : PT X e t) (hi : ∀ sg H Q, t' sg H Q → t sg H Q) : PT X e t' := fun pins s sg H Q I q => h pins s sg H Q I (hi _ _ _ q)
theorem qc (h : PA X e t) (hi : ∀ sg H Q, t' sg H Q → t sg H Q) : PA X e t' := fun pos pins s sg H Q I q => h pos pins s sg H Q I (hi _ _ _ q)
theorem ba (i : Nat) (h : PE X (.Name x pos) (lr i)) : Sd g X (.Name x pos) (.var i) := Ay h fun sg H Q q => by
 obtain ⟨rho, st, env, s, n, q⟩ := q
 simp only [Aa] at q
 cases e : bw env i with
 | none => rw [e] at q; exact q.elim
 | some d =>
  rw [e] at q
  have e' : env[i]? = some (some d) := by
   unfold bw at e
   cases z : env[i]? with
   | none => rw [z] at e; cases e
   | some o => rw [z] at e; cases o with
    | none => cases e
    | some y => cases e; rfl
  obtain ⟨v, e1, r⟩ := n.val i d e'
  exact ⟨v, e1, q v H rho (.refl _ _) s r⟩
theorem Jn (h : PE X e (tC v)) (hr : ∀ rho H, g.Rep rho H d v) : Sd g X e (.cst d) := Ay h fun sg H Q q => by
 obtain ⟨rho, st, env, s, n, q⟩ := q
 exact q v H rho (.refl _ _) s (hr _ _)
theorem Ab {i j pos} : Sd g X (.Constant (.int i) j pos) (.cst (.int i)) := Jn Uj fun _ _ => by simp [Rep]
theorem fk {i j pos} : Sd g X (.Constant (.bool i) j pos) (.cst (.bl i)) := Jn uk fun _ _ => by simp [Rep]
theorem Fz {j pos} : Sd g X (.Constant .none j pos) (.cst .non) := Jn Uk fun _ _ => by simp [Rep]
theorem Ag {x j pos} : Sd g X (.Constant (.str x) j pos) (.cst (.str x)) := Jn oq fun _ _ => by simp [Rep]
theorem Ac : SdL g X [] .nil := qc Hs fun sg H Q q => by
 obtain ⟨rho, st, env, s, n, q⟩ := q
 exact q [] H rho (.refl _ _) s (by simp [RepL])
theorem aa {e : Expr} {es : List Expr} {e' : E} {es' : Es} (h : Sd g X e e') (t : SdL g X es es') (hs : starEach (e :: es) X.env = (false, eval e X.env) :: starEach es X.env := by rfl) : SdL g X (e :: es) (.cons e' es') :=
 qc (ff h t hs) fun sg H Q q => by
  obtain ⟨rho, st, env, s, n, q⟩ := q
  simp only [Ap] at q
  refine step s n q fun d st1 v H1 r1 k1 s1 n1 rp q1 => ?_
  refine Fj s1 n1 q1 fun ds st2 vs H2 r2 k2 s2 n2 rps q2 => ?_
  have q2 : Qb g rho H Q (d :: ds) st2 := q2
  exact q2 (v :: vs) H2 r2 (k1.trans k2) s2 (by simp only [RepL]; exact ⟨v, vs, rfl, rp.mono k2, rps⟩)
theorem ah {es : List Expr} {es' : Es} {x1} (h : SdL g X es es') : Sd g X (.Tuple es x1 pos) (.tupE es') := Ay (Wb h) fun sg H Q q => by
 obtain ⟨rho, st, env, s, n, q⟩ := q
 simp only [Aa] at q
 refine Fj s n q fun ds st1 vs H1 r1 k1 s1 n1 rps q1 => ?_
 have hl := rps.length
 by_cases z : ds.length ≤ sizeLine
 · rw [if_pos z] at q1
   refine ⟨by omega, fun p hp => ?_⟩
   have q1 : Al g rho H Q (.tup ds) st1 := q1
   have e := Fh hp (.tup vs)
   refine q1 (.ref p) _ r1 (k1.trans (Bq.keep e r1)) (s1.same e) ?_
   simp only [Rep]
   exact ⟨p, vs, rfl, SqT.of Cb, rps.mono (Bq.keep e r1)⟩
 · rw [if_neg z] at q1; exact q1.elim
theorem Ba {es : List Expr} {es' : Es} (h : SdL g X es es') : Sd g X (.List es pos) (.lstE es') := Ay (wc h) fun sg H Q q => by
 obtain ⟨rho, st, env, s, n, q⟩ := q
 simp only [Aa] at q
 refine Fj s n q fun ds st1 vs H1 r1 k1 s1 n1 rps q1 => ?_
 have hl := rps.length
 by_cases z : ds.length ≤ sizeLine
 · rw [if_pos z] at q1
   refine ⟨by omega, fun p hp => ?_⟩
   have q1 : Al g rho H Q (.loc st1.length) (st1 ++ [.lst ds]) := q1
   have e := Fh hp (.lst vs)
   have kk : g.Keep r1 H1 (r1 ++ [p]) (upd H1 p (.lst vs)) := ⟨⟨[p], rfl⟩, (Bq.keep e r1).tup⟩
   obtain ⟨k2, s2⟩ := s1.laid hp (o := .lst vs) (c := .lst ds) ⟨vs, Cb, rps.mono kk⟩
   refine q1 (.ref p) _ _ (k1.trans k2) s2 ?_
   simp only [Rep]
   exact ⟨p, by rw [← s1.len]; simp, rfl⟩
 · rw [if_neg z] at q1; exact q1.elim
theorem two {o : V → V → Hp → VK → Prop} {k : D → D → Sto → Res D} (hop : ∀ x y u v st rho H Q, g.Sto rho st H → g.Rep rho H x u → g.Rep rho H y v → RQ g (k x y st) (Al g rho H Q) rho H → o u v H Q)
    {sg : St} {H : Hp} {Q : VK} {rho : List Addr} {st : Sto} {env : Env} (s : g.Sto rho st H) (n : g.Env rho H env sg)
    (q : RQ g ((Aa g.tab g.call a' env st).bind fun x st => (Aa g.tab g.call b' env st).bind fun y st => k x y st) (Al g rho H Q) rho H) : tOp o (tE g a') (tE g b') sg H Q := by
  refine step s n q fun x st1 u H1 r1 k1 s1 n1 rp q1 => ?_
  refine step s1 n1 q1 fun y st2 v H2 r2 k2 s2 n2 rp2 q2 => ?_
  exact hop x y u v st2 r2 H2 Q s2 (rp.mono k2) rp2 (RQ.mono (.refl _ _) q2 fun d st p => p.mono (k1.trans k2))
end DD
namespace DD
open PySem PySem.Spec L2
variable {g : G} {X : Cx} {a b c : Expr} {a' b' c' : E} {pos : Pos}
theorem Qc (h : i.natAbs < BIG) : Builtin.Int.intBits i ≤ 4000 := by
 unfold Builtin.Int.intBits
 split
 · omega
 · rename_i h0
   have hz : i.natAbs ≠ 0 := by
    intro z; apply h0; simp [Int.natAbs_eq_zero.mp z]
   have : i.natAbs.log2 < 4000 := (Nat.log2_lt hz).mpr h
   omega
theorem Et.ok {i j : Int} (h : Et i j) : IntMulOk i j := by
 rcases h with h | h | h
 · exact .of_left (intBits_le_64 h.1 h.2)
 · exact .of_right (intBits_le_64 h.1 h.2)
 · exact IntMulOk.of_bits (Nat.le_trans (Qc h.1) (by decide)) (Nat.le_trans (Qc h.2) (by decide))
theorem fg.py (h : fg j) : Builtin.divisionGoesByPylong i j = false := by
 refine PyProof.noPylong_of_log2 ?_
 have hz : j.natAbs ≠ 0 := fun z => h.1 (Int.natAbs_eq_zero.mp z)
 have : j.natAbs.log2 < 4000 := (Nat.log2_lt hz).mpr h.2
 omega
theorem xr : OpR X (binaryOp .Mult) (rI (fun i j => Et i j) fun i j => .int (i * j)) := opI fun _ _ _ _ _ _ _ hc q => PyProof.Rows.mul_int q hc.ok
theorem Xr : OpR X (binaryOp .FloorDiv) (rI (fun _ j => fg j) fun i j => .int (i.fdiv j)) := opI fun _ _ _ _ _ _ _ hc q => PyProof.Rows.floordiv_int hc.1 q (.inl hc.py)
theorem ao {rho : List Addr} {H : Hp} {i : Int} {v : V} : g.Rep rho H (.int i) v ↔ v = .int i := by simp [Rep]
theorem bc : g.Rep rho H (.bl i) v ↔ v = .bl i := by simp [Rep]
theorem Dy : g.Rep rho H .non v ↔ v = .non := by simp [Rep]
theorem Bx : g.Rep rho H (.str x) v ↔ v = .str x := by simp [Rep]
theorem bf : g.Rep rho H (.loc n) v ↔ ∃ a, rho[n]? = some a ∧ v = .ref a := by simp [Rep]
theorem Cp : g.Rep rho H (.tup ds) v ↔ ∃ a vs, v = .ref a ∧ SqT g.K H a vs ∧ g.RepL rho H ds vs := by simp [Rep]
theorem fm {rho : List Addr} {st : Sto} {H : Hp} (s : g.Sto rho st H) {n : Nat} {ds : List D} (h : st[n]? = some (.lst ds)) : ∃ a vs, rho[n]? = some a ∧ H a = some (.lst vs) ∧ g.RepL rho H ds vs := by
 have hl : n < rho.length := by rw [s.len]; exact (List.getElem?_eq_some_iff.mp h).1
 obtain ⟨vs, p, q⟩ := s.cells n rho[n] (.lst ds) (List.getElem?_eq_getElem hl) h
 exact ⟨_, vs, List.getElem?_eq_getElem hl, p, q⟩
theorem dz {rho : List Addr} {st : Sto} {H : Hp} (s : g.Sto rho st H) {n : Nat} {ds : List D} (h : af st n = some ds) : ∃ a vs, rho[n]? = some a ∧ SqL g.K H a vs ∧ g.RepL rho H ds vs := by
 unfold af at h
 split at h
 · rename_i xs e
   cases h
   obtain ⟨a, vs, p, q, r⟩ := fm s e
   exact ⟨a, vs, p, SqL.of q, r⟩
 · rename_i xs e
   cases h
   have hl : n < rho.length := by rw [s.len]; exact (List.getElem?_eq_some_iff.mp e).1
   obtain ⟨vs, p, q⟩ := s.cells n rho[n] (.frz ds) (List.getElem?_eq_getElem hl) e
   exact ⟨_, vs, List.getElem?_eq_getElem hl, p.elim (fun ⟨o, p⟩ => .inl (.inr ⟨o, p⟩)) .inr, q⟩
 · cases h
theorem jo (s : g.Sto rho st H) (r : g.RepL rho H ds vs) (hp : H p = none) (q : Al g rho H Q (.loc st.length) (st ++ [.lst ds])) : Q (.ref p) (upd H p (.lst vs)) := by
 have e := Fh hp (.lst vs)
 have kk : g.Keep rho H (rho ++ [p]) (upd H p (.lst vs)) := ⟨⟨[p], rfl⟩, (Bq.keep e rho).tup⟩
 obtain ⟨k2, s2⟩ := s.laid hp (o := .lst vs) (c := .lst ds) ⟨vs, Cb, r.mono kk⟩
 refine q (.ref p) _ _ k2 s2 (bf.mpr ⟨p, by rw [← s.len]; simp, rfl⟩)
theorem As (ha : Sd g X a a') (hb : Sd g X b b') : Sd g X (.BinOp a .Add b pos) (.op .add a' b') := Ay (Gm (OpR.or Vi (OpR.or xb Vq)) ha hb) fun sg H Q q => by
 obtain ⟨rho, st, env, s, n, q⟩ := q
 simp only [Aa] at q
 refine two (k := opD .add) ?_ s n q
 intro x y u v st rho H Q s rx ry q
 cases x with
 | int i =>
  cases y with
  | int j => exact .inl ⟨i, j, ao.mp rx, ao.mp ry, q _ H rho (.refl _ _) s (ao.mpr rfl)⟩
  | _ => exact q.elim
 | loc i =>
  cases y with
  | loc j =>
   simp only [opD] at q
   split at q
   · rename_i xs ys e1 e2
     split at q
     · rename_i z
       obtain ⟨p1, v1, a1, h1, r1⟩ := fm s e1
       obtain ⟨p2, v2, a2, h2, r2⟩ := fm s e2
       obtain ⟨b1, c1, d1⟩ := bf.mp rx
       obtain ⟨b2, c2, d2⟩ := bf.mp ry
       rw [a1] at c1; cases c1
       rw [a2] at c2; cases c2
       exact .inr (.inl ⟨p1, p2, v1, v2, d1, d2, h1, h2, by rw [← r1.length, ← r2.length]; exact z, fun p hp => jo s (r1.append r2) hp q⟩)
     · exact q.elim
   · exact q.elim
  | _ => exact q.elim
 | str i =>
  cases y with
  | str j =>
   simp only [opD] at q
   split at q
   · rename_i z
     exact .inr (.inr ⟨i, j, Bx.mp rx, Bx.mp ry, z, q _ H rho (.refl _ _) s (Bx.mpr rfl)⟩)
   · exact q.elim
  | _ => exact q.elim
 | _ => exact q.elim
theorem gr (ha : Sd g X a a') (hb : Sd g X b b') : Sd g X (.BinOp a .Sub b pos) (.op .sub a' b') := Ay (Gm vj ha hb) fun sg H Q q => by
 obtain ⟨rho, st, env, s, n, q⟩ := q
 simp only [Aa] at q
 refine two (k := opD .sub) ?_ s n q
 intro x y u v st rho H Q s rx ry q
 cases x with
 | int i =>
  cases y with
  | int j => exact ⟨i, j, ao.mp rx, ao.mp ry, q _ H rho (.refl _ _) s (ao.mpr rfl)⟩
  | _ => exact q.elim
 | _ => exact q.elim
theorem Ga (hK : X.K = g.K) (ha : Sd g X a a') (hb : Sd g X b b') : Sd g X (.BinOp a .Mult b pos) (.op .mul a' b') := Ay (Gm (OpR.or xr (OpR.or xc (OpR.or xq Xp))) ha hb) fun sg H Q q => by
 obtain ⟨rho, st, env, s, n, q⟩ := q
 simp only [Aa] at q
 refine two (k := opD .mul) ?_ s n q
 intro x y u v st rho H Q s rx ry q
 cases x with
 | int i =>
  cases y with
  | int j =>
   simp only [opD] at q
   split at q
   · rename_i z
     exact .inl ⟨i, j, ao.mp rx, ao.mp ry, z, q _ H rho (.refl _ _) s (ao.mpr rfl)⟩
   · exact q.elim
  | _ => exact q.elim
 | loc i =>
  cases y with
  | int k =>
   simp only [opD] at q
   split at q
   · rename_i xs e1
     split at q
     · rename_i z
       obtain ⟨p1, v1, a1, h1, r1⟩ := fm s e1
       obtain ⟨b1, c1, d1⟩ := bf.mp rx
       rw [a1] at c1; cases c1
       exact .inr (.inl ⟨p1, k, v1, d1, ao.mp ry, h1, z.1, z.2.1, by rw [← r1.length]; exact z.2.2, fun p hp => jo s (r1.rep _) hp q⟩)
     · exact q.elim
   · exact q.elim
  | _ => exact q.elim
 | str i =>
  cases y with
  | int k =>
   simp only [opD] at q
   split at q
   · rename_i z
     exact .inr (.inr (.inl ⟨i, k, Bx.mp rx, ao.mp ry, z.1, z.2.1, z.2.2.1, z.2.2.2, q _ H rho (.refl _ _) s (Bx.mpr rfl)⟩))
   · exact q.elim
  | _ => exact q.elim
 | tup ds =>
  cases y with
  | int k =>
   simp only [opD] at q
   split at q
   · rename_i z
     obtain ⟨a1, vs, d1, h1, r1⟩ := Cp.mp rx
     have hl := r1.length
     refine .inr (.inr (.inr ⟨a1, k, vs, d1, ao.mp ry, by rw [hK]; exact h1, z.1, z.2.1, by rw [← hl]; exact z.2.2, fun e => ?_, fun p hp => ?_⟩))
     · refine q _ H rho (.refl _ _) s ?_
       have := r1.rep k.toNat
       rw [e] at this
       exact Cp.mpr ⟨a1, vs, rfl, h1, this⟩
     · have e := Fh hp (.tup (List.replicate k.toNat vs).flatten)
       refine q (.ref p) _ rho (Bq.keep e rho) (s.same e) ?_
       exact Cp.mpr ⟨p, _, rfl, SqT.of Cb, (r1.rep k.toNat).mono (Bq.keep e rho)⟩
   · exact q.elim
  | _ => exact q.elim
 | _ => exact q.elim
theorem Bk (ha : Sd g X a a') (hb : Sd g X b b') : Sd g X (.BinOp a .FloorDiv b pos) (.op .fdiv a' b') := Ay (Gm Xr ha hb) fun sg H Q q => by
 obtain ⟨rho, st, env, s, n, q⟩ := q
 simp only [Aa] at q
 refine two (k := opD .fdiv) ?_ s n q
 intro x y u v st rho H Q s rx ry q
 cases x with
 | int i =>
  cases y with
  | int j =>
   simp only [opD] at q
   split at q
   · rename_i z
     exact ⟨i, j, ao.mp rx, ao.mp ry, z, q _ H rho (.refl _ _) s (ao.mpr rfl)⟩
   · exact q.elim
  | _ => exact q.elim
 | _ => exact q.elim
theorem bb (ha : Sd g X a a') (hb : Sd g X b b') : Sd g X (.BinOp a .Mod b pos) (.op .mod a' b') := Ay (Gm Vj ha hb) fun sg H Q q => by
 obtain ⟨rho, st, env, s, n, q⟩ := q
 simp only [Aa] at q
 refine two (k := opD .mod) ?_ s n q
 intro x y u v st rho H Q s rx ry q
 cases x with
 | int i =>
  cases y with
  | int j =>
   simp only [opD] at q
   split at q
   · rename_i z
     exact ⟨i, j, ao.mp rx, ao.mp ry, z, q _ H rho (.refl _ _) s (ao.mpr rfl)⟩
   · exact q.elim
  | _ => exact q.elim
 | _ => exact q.elim
theorem Jo (ha : Sd g X a a') (hb : Sd g X b b') : Sd g X (.BinOp a .Pow b pos) (.op .pow a' b') := Ay (Gm vk ha hb) fun sg H Q q => by
 obtain ⟨rho, st, env, s, n, q⟩ := q
 simp only [Aa] at q
 refine two (k := opD .pow) ?_ s n q
 intro x y u v st rho H Q s rx ry q
 cases x with
 | int i =>
  cases y with
  | int j =>
   simp only [opD] at q
   split at q
   · rename_i z
     exact ⟨i, j, ao.mp rx, ao.mp ry, z, q _ H rho (.refl _ _) s (ao.mpr rfl)⟩
   · exact q.elim
  | _ => exact q.elim
 | _ => exact q.elim
end DD
namespace DD
open PySem PySem.Spec L2
open PyProof.Rows hiding St
structure Flew (P : Program) (w : World) (outer : List PySem.Env) (H : Hp) (s : Shared) (C a t : Addr) (H' : Hp) (B : Heap) (s' : Shared) : Prop where
 os : s'.os = s.os
 bare : AllBare s'.gens
 fly : Heap.FlyingW B outer a (.ref C) (.ref t) s'.heap
 keep : ∀ b o, s.heap.get? b = some o → H b = none → b ∉ frs outer → B.get? b = some o
 there : ∀ b o, s.heap.get? b = some o → b ∉ frs outer → ∃ o', B.get? b = some o'
 free : ∀ b o, s.heap.get? b = some o → H b = none → H' b = none
 slot : ∀ b o, s.heap.get? b = some o → H b = none → b ∈ frs outer → ∃ sl, s'.heap.get? b = some { o with slots := sl }
 tups : ∀ b xs, H b = some (.tup xs) → H' b = some (.tup xs)
 frzs : ∀ b o u, H b = some (.frz o u) → H' b = some (.frz o u)
 tbls : ∀ b ps, H b = some (.tbl ps) → ∃ more, H' b = some (.tbl (ps ++ more))
 hok : HOk P w H' B
def CXd (P : Program) (w : World) : CXT := fun outer H s E e s' => ∃ (C a t : Addr) (H' : Hp) (B : Heap), e = .ref a ∧ Flew P w outer H s C a t H' B s' ∧ E (.ref C) none H'
theorem Jp (h : env.frame = some L) (outer : List PySem.Env) : frs (env :: outer) = L :: frs outer := by
 unfold frs; rw [List.filterMap_cons, h]
section
variable {P : Program} {w : World} {K : PySem.W.Frag} {mg : Str → Option Value} {base : Heap} {N : List Str} {qual : Str} {scope : Scope} {f : Addr} {cd : Value} {A : Around} {outer : List PySem.Env} {s : Shared} {H : Hp} {E : XK}
theorem az : Passes (CXd P w) (Ds (CXd P w) P w K mg base N qual scope f cd A outer s H E) E := by
 intro pins sg H1 s1 e s2 I h
 obtain ⟨C, a, t, H', B, rfl, F, q⟩ := h
 have hf : (envOfC qual scope s.heap.objs.size f cd).frame = some s.heap.objs.size := rfl
 have hstk : (Ds (CXd P w) P w K mg base N qual scope f cd A outer s H E).stack = envOfC qual scope s.heap.objs.size f cd :: outer := rfl
 have hfr := Jp hf outer
 rw [hstk] at F
 have hb : ∀ b o, s.heap.get? b = some o → b ∉ frs outer → b ∉ frs (envOfC qual scope s.heap.objs.size f cd :: outer) := fun b o e hn => by
  rw [hfr]
  intro m
  rcases List.mem_cons.mp m with z | z
  · have := Heap.lt_size e; rw [z] at this; exact Nat.lt_irrefl _ this
  · exact hn z
 have up : ∀ b o, s.heap.get? b = some o → ∃ o', s1.heap.get? b = some o' := fun b o e => I.base.there b o e (by intro z; cases z)
 show wpAny (model P w) (A.deeper (envOfC qual scope s.heap.objs.size f cd)) (leaving (envOfC qual scope s.heap.objs.size f cd) (.ref a)) (fun _ s'' => CXd P w outer H s E (.ref a) s'') (fun e' s'' => CXd P w outer H s E e' s'') s2
 refine wpAny_leaves_onW (I.ok.frames) hf F.fly fun h' fl us => ?_
 refine ⟨C, a, t, H', B, rfl, ⟨F.os.trans I.os, F.bare, fl, fun b o e n hn => ?_, fun b o e hn => ?_, fun b o e n => ?_, fun b o e n hm => ?_, fun b xs e => F.tups _ _ (I.base.tups _ _ e), fun b o u e => F.frzs _ _ _ (I.base.frzs _ _ _ e), fun b ps e => ?_, F.hok⟩, q⟩
 · exact F.keep b o (I.base.keep b o e n hn (by intro z; cases z)) (I.base.free b o e n (by intro z; cases z)) (hb b o e hn)
 · obtain ⟨o', e'⟩ := up b o e
   exact F.there b o' e' (hb b o e hn)
 · obtain ⟨o', e'⟩ := up b o e
   exact F.free b o' e' (I.base.free b o e n (by intro z; cases z))
 · obtain ⟨sl, e1⟩ := I.base.slot b o e n hm (by intro z; cases z)
   have n1 := I.base.free b o e n (by intro z; cases z)
   obtain ⟨sl2, e2⟩ := F.slot b _ e1 n1 (by rw [hfr]; exact List.mem_cons_of_mem _ hm)
   have nf : ∀ vs, o.data ≠ .fields vs := by
    obtain ⟨_, o2, ho2, hd2⟩ := I.ok.funs.mem hm
    have : s.heap.get? b = some o2 := ho2
    rw [e] at this; cases this; exact hd2
   obtain ⟨sl3, e3⟩ := us b _ e2 nf
   exact ⟨sl3, e3⟩
 · obtain ⟨m1, e1⟩ := I.base.tbls b ps e
   obtain ⟨m2, e2⟩ := F.tbls b _ e1
   exact ⟨m1 ++ m2, by rw [e2, Array.append_assoc]⟩
def Throws (X : Cx) (E : XK) : Prop := ∀ (pins : List (Addr × Obj)) (sg : L2.St) (H : Hp) (s1 s2 : Shared) (a C : Addr) (vs : List Value), L2.Inv X pins sg H s1 → s2.os = s1.os → AllBare s2.gens → Heap.MadeExcOf s1.heap s2.heap a (.ref C) vs → E (.ref C) none H → X.xe (.ref a) s2
theorem qd {l : List Addr} {b h : Heap} : ∀ {env : List PySem.Env}, h.FunFrames b env → (∀ x ∈ frs env, x ∈ l) → h.FunFrames (PySem.W.hideAll h l) env
 | [], _, _ => trivial
 | e :: r, ⟨hk, ⟨L, o, hf, hn, ho, hd⟩, hr⟩, hm => by
  have e1 := Jp hf r
  refine ⟨hk, ⟨L, o, hf, PySem.W.hideAll_none _ (hm L (by rw [e1]; exact List.mem_cons_self)), ho, hd⟩, qd hr fun x hx => hm x (by rw [e1]; exact List.mem_cons_of_mem _ hx)⟩
theorem Ia : Throws (Ds (CXd P w) P w K mg base N qual scope f cd A outer s H E) E := by
 intro pins sg H1 s1 s2 a C vs I hos hbare hx q
 have hf : (envOfC qual scope s.heap.objs.size f cd).frame = some s.heap.objs.size := rfl
 have hfr := Jp hf outer
 have hstk : (Ds (CXd P w) P w K mg base N qual scope f cd A outer s H E).stack = envOfC qual scope s.heap.objs.size f cd :: outer := rfl
 have hb : ∀ b o, s.heap.get? b = some o → b ∉ frs outer → b ∉ frs (envOfC qual scope s.heap.objs.size f cd :: outer) := fun b o e hn => by
  rw [hfr]
  intro m
  rcases List.mem_cons.mp m with z | z
  · have := Heap.lt_size e; rw [z] at this; exact Nat.lt_irrefl _ this
  · exact hn z
 have hst : s1.heap.FunFrames base (envOfC qual scope s.heap.objs.size f cd :: outer) := I.stack
 have hfree : ∀ b ∈ frs (envOfC qual scope s.heap.objs.size f cd :: outer), H1 b = none := I.stkFree
 show wpAny (model P w) (A.deeper (envOfC qual scope s.heap.objs.size f cd)) (leaving (envOfC qual scope s.heap.objs.size f cd) (.ref a)) (fun _ s'' => CXd P w outer H s E (.ref a) s'') (fun e' s'' => CXd P w outer H s E e' s'') s2
 refine wpAny_leaves_madeW (base := PySem.W.hideAll s1.heap (frs (envOfC qual scope s.heap.objs.size f cd :: outer))) (h := s1.heap) I.ok.frames hf (fun b o e => PySem.W.of_hideAll _ e) (qd hst fun x h => h) hx fun h' t fl _ _ us => ?_
 refine ⟨C, a, t, H1, _, rfl, ⟨hos.trans I.os, hbare, fl, fun b o e n hn => ?_, fun b o e hn => ?_, fun b o e n => I.base.free b o e n (by intro z; cases z), fun b o e n hm => ?_, I.base.tups, I.base.frzs, I.base.tbls, fun b o e => ?_⟩, q⟩
 · exact PySem.W.hideAll_get _ (I.base.keep b o e n hn (by intro z; cases z)) (hb b o e hn)
 · obtain ⟨o', e'⟩ := I.base.there b o e (by intro z; cases z)
   exact ⟨o', PySem.W.hideAll_get _ e' (hb b o e hn)⟩
 · obtain ⟨sl, e1⟩ := I.base.slot b o e n hm (by intro z; cases z)
   have nf : ∀ vs, o.data ≠ .fields vs := by
    obtain ⟨_, o2, ho2, hd2⟩ := I.ok.funs.mem hm
    have : s.heap.get? b = some o2 := ho2
    rw [e] at this; cases this; exact hd2
   obtain ⟨sl3, e3⟩ := us b _ (hx.keeps _ _ e1) nf
   exact ⟨sl3, e3⟩
 ·
  have nfr : ∀ c, (c = b ∨ H1 c = some (.own b)) → c ∉ frs (envOfC qual scope s.heap.objs.size f cd :: outer) := fun c hc hm => by
   have := hfree c hm
   rcases hc with rfl | hc
   · rw [this] at e; cases e
   · rw [this] at hc; cases hc
  exact (I.hok b o e).stay (fun c u hc g => PySem.W.hideAll_get _ g (nfr c hc)) (fun _ h => h) fun _ _ h => h
theorem Xs (X : K.In h) (q : PySem.W.excIn K C bmB newId = true) :
    ∃ bm N nm q bs hdct sn sub ab col dd k0 k1 k2 k3 k5 mN, h.get? C = some (excClassObj nm q C N bs bm hdct sn sub ab col dd k0 k1 k2 k3 k5 newId) ∧ h.Ns N mN ∧ mN "__init__" = none ∧ OwnTail h bmB bm := by
  unfold PySem.W.excIn at q
  split at q
  · rename_i dd cd sl ho
    split at q
    · rename_i C' bm k0 k1 k2 k3 n k5 hm hs
      simp only [Bool.and_eq_true, beq_iff_eq, Bool.not_eq_true'] at q
      obtain ⟨⟨⟨⟨⟨rfl, rfl⟩, hdel⟩, ht⟩, hok⟩, hni⟩ := q
      obtain ⟨nm, bs, mro, ns, qn, hd, sn, sub, ab, col, del⟩ := cd
      dsimp only at hm hdel hok hni
      subst hm hdel
      have hsl : sl = #[k0, k1, k2, k3, some (.builtin n), k5] := by
        obtain ⟨l⟩ := sl
        simp only at hs
        rw [hs]
      subst hsl
      exact ⟨bm, ns, nm, qn, bs, hd, sn, sub, ab, col, dd, k0, k1, k2, k3, k5, _, X _ _ ho, .of_isNs (PySem.W.isNs_of_in X hok), PySem.W.nsMap_none_of_in X hok hni, PySem.W.tail_of_in X ht⟩
    · cases q
  · cases q
def xt (E : XK) (C : Addr) : TS := fun _ _ H => E (.ref C) none H
theorem Xt {x txt : Str} {j : Nat} {np ap cpos pos : Pos} {bmB : List Value} (hth : Throws X E) (hh : X.A.handled = none) (hg : Gl X x) (hn : PySem.W.nsIn X.K mainGlobals x = some (some (.ref C))) (hm : X.mg x = some (.ref C))
    (hq : PySem.W.excIn X.K C [.type "ValueError", .type "Exception", .type "BaseException", .type "object"] "ValueError.__new__" = true) (hd : (x == ("__debug__" : Str)) = false := by decide) :
    PS X (.Raise (some (.Call (.Name x np) [.Constant (.str txt) j ap] [] cpos)) none pos) (xt E C) := by
  intro pins s sg H D I h
  have KX := I.kIn
  have FB := PySem.F.excBase_ValueError
  have obj := Xs I.mod.kin hq
  obtain ⟨tl, N, nm, q, bs, hdct, sn, sub, ab, col, dd, k0, k1, k2, k3, k5, mN, hC, hN, hni, T⟩ := obj
  refine wpAny_Raise_call_subU (C := C) (nm := nm) (q := q) (N := N) (bs := bs) (bm := tl) (hdct := hdct) (sn := sn) (sub := sub) (ab := ab) (col := col) (dd := dd) (k0 := k0) (k1 := k1) (k2 := k2) (k3 := k3) (k5 := k5)
    FB (by decide) FB (mN := mN) (T.hasType FB.hasBase) hh rfl hni (Hn I hg hm ⟨rfl, ?_⟩ hd)
  have ha : PA X [.Constant (.str txt) j ap] (ji (tC (.str txt)) Ly) := ff oq Hs
  have := ha cpos pins s sg H (fun vs H1 => vs = [.str txt] ∧ H1 = H) I ⟨rfl, rfl⟩
  refine Calls.evalArgs_plain (thn this fun us s2 h2 => ?_)
  obtain ⟨vs, H2, I2, rv, e1, e2⟩ := h2
  subst e1 e2
  have hl : us.length = 1 := by rw [← rv.length]; rfl
  exact ⟨rfl, by rw [show ({ pos := us, kw := [] } : Args).pos.length = us.length from rfl, hl]; decide, I2.bk _ _ hC, hN.keeps I2.bk, T.keeps I2.bk, fun h' e hm => hth pins sg _ s2 { s2 with heap := h' } e C us I2 rfl I2.bare hm h⟩
end
end DD
namespace DD
open PySem PySem.Spec L2
open PyProof.Rows hiding St
abbrev Cx.hd (X : Cx) (a : Addr) : Cx := { X with A := X.A.mark (some (.ref a)), calm := false, xe := fun _ _ => False }
def jq (X : Cx) : L2.St := List.replicate X.N.length none
theorem xu {X : Cx} {i : Nat} {v : V} (h : (jq X)[i]? = some (some v)) : False := by
 unfold jq at h
 rw [List.getElem?_replicate] at h
 split at h <;> cases h
theorem Xu (ok : X.Ok) (a : Addr) : (Cx.hd X a).Ok :=
 ⟨ok.mod, ok.kind, ok.glob, ok.blt, ok.above, ok.inj, ok.has, ok.cab, fun z => absurd z (by simp), ok.frames, ok.stk, ok.exf, ok.bs, ok.bsz, ok.noex, ok.exfs, ok.funs, ok.frf⟩
theorem Qd (x : bg P w H h a o) : ∃ u, h.get? a = some u := by
 cases o with
 | lst xs => obtain ⟨_, _, _, _, e⟩ := x; exact ⟨_, e⟩
 | tup xs => obtain ⟨_, _, _, o, e, _⟩ := x; exact ⟨_, e⟩
 | dK kvs => obtain ⟨_, _, _, _, o, _, _, e, _⟩ := x; exact ⟨_, e⟩
 | dT kvs => obtain ⟨_, _, _, _, o, _, _, e, _⟩ := x; exact ⟨_, e⟩
 | set S n => obtain ⟨o, _, _, _, e, _⟩ := x; exact ⟨_, e⟩
 | ins C dx fs => obtain ⟨_, _, _, e, _⟩ := x; exact ⟨_, e⟩
 | own y => exact x
 | xd fs => obtain ⟨_, ⟨_, _, _, e, _⟩, _⟩ := x; exact ⟨_, e⟩
 | rng lo hi => obtain ⟨_, _, _, e⟩ := x; exact ⟨_, e⟩
 | frz ob u => obtain ⟨e, _⟩ := x; exact ⟨_, e⟩
 | tbl ps => exact ⟨_, show h.get? a = some _ from x⟩
 | met f y => exact ⟨_, show h.get? a = some _ from x⟩
 | ext φ => obtain ⟨_, e, _⟩ := x; exact e
theorem landed {X : Cx} {pins : List (Addr × Obj)} {sg : L2.St} {H H' : Hp} {s1 s2 : Shared} {C a t : Addr} {B h : Heap} (hfn : ∀ x, X.fn x = true) (hstk : X.stack = X.env :: X.outer) (hfr : X.env.frame = some X.env.locals) (hex : X.ex = [])
    (I : L2.Inv X pins sg H s1) (F : Flew X.prog X.w X.stack H s1 C a t H' B s2) (hB : Heap.FlyingW B X.stack a (.ref C) (.ref t) h) (us : s2.heap.UpToSlots h) :
    L2.Inv (Cx.hd X a) pins (jq X) (upd H' a (.ext (Gq a (.ref C)))) { s2 with heap := h } := by
  have hfrs : frs X.stack = X.env.locals :: X.fs := by rw [hstk]; exact Jp hfr X.outer
  have st : ∀ b o, B.get? b = some o → h.get? b = some o := hB.1
  have aB : B.get? a = none := hB.2.1
  obtain ⟨oe, ws, hoe, hoec, hoed, hoe0⟩ := hB.first
  have hnotA : ∀ b o, B.get? b = some o → b ≠ a := fun b o e z => by rw [z, aB] at e; cases e
  have nex : ∀ b : Addr, b ∉ X.ex := fun b z => by rw [hex] at z; cases z
  have old : ∀ b o, X.s₀.heap.get? b = some o → b ∉ X.fs → b ∉ frs X.stack := fun b o e hn hm => by
    rw [hfrs] at hm
    rcases List.mem_cons.mp hm with z | z
    · have := Heap.lt_size e
      rw [z] at this
      exact Nat.lt_irrefl _ (Nat.lt_of_lt_of_le this I.ok.above)
    · exact hn z
  obtain ⟨m, hm, _⟩ := I.loc
  obtain ⟨oL, esL, epL, hoL, hdL, hrL⟩ := hm
  have memL : X.env.locals ∈ frs X.stack := by rw [hfrs]; exact List.mem_cons_self
  obtain ⟨slL, e2L⟩ := F.slot _ _ hoL I.free memL
  obtain ⟨sl3, e3L⟩ := us _ _ e2L (fun vs q => by simp only [hdL] at q; cases q)
  have neL : X.env.locals ≠ a := fun z => by
    rw [z, hoe] at e3L
    cases e3L
    have hz : oL.data = .fields ws := hoed
    rw [hdL] at hz
    cases hz
  have frameNe : ∀ b o, s1.heap.get? b = some o → H b = none → b ∈ frs X.stack → (∀ vs, o.data ≠ .fields vs) → ∃ sl, h.get? b = some { o with slots := sl } := fun b o e n hm nf => by
    obtain ⟨sl, e1⟩ := F.slot b o e n hm
    obtain ⟨sl', e2⟩ := us b _ e1 nf
    exact ⟨sl', e2⟩
  have hcell : ∀ x c, X.env.cells.lookup x = some c → ∃ v, B.IsCell c v := fun x c e => by
    obtain ⟨v, o, ho, hd⟩ := I.cell x c e
    have hnot : c ∉ frs X.stack := fun hm => by
      rw [hfrs] at hm
      rcases List.mem_cons.mp hm with z | z
      · exact I.cne x c e z
      · have h1 := I.ok.cab x c (hfn x) e
        obtain ⟨_, o2, ho2, _⟩ := I.ok.funs.mem z
        exact absurd (Nat.lt_of_lt_of_le (Heap.lt_size ho2) h1) (Nat.lt_irrefl _)
    exact ⟨v, o, F.keep c o ho (I.freeC x c e) hnot, hd⟩
  refine ⟨Xu I.ok a, F.os.trans I.os, F.bare, ⟨fun b o e n hn hx => ?_, fun b o e n hm hx => ?_, fun b o e n hx => ?_, fun b o e hx => ?_, fun b xs e => ?_, fun b o u e => ?_, fun b ps e => ?_⟩, ⟨m, ⟨_, esL, epL, e3L, hdL, hrL⟩, fun i x v _ e2 _ => (xu e2).elim⟩, fun x c e => ?_, ?_, fun x c e => ?_, fun p hp => ?_, fun b o e => ?_, by unfold jq; rw [List.length_replicate]⟩
  · exact st _ _ (F.keep b o (I.base.keep b o e n hn (nex b)) (I.base.free b o e n (nex b)) (old b o e hn))
  · obtain ⟨sl, e1⟩ := I.base.slot b o e n hm (nex b)
    have nf : ∀ vs, o.data ≠ .fields vs := by
      obtain ⟨_, o2, ho2, hd2⟩ := I.ok.funs.mem hm
      rw [e] at ho2; cases ho2; exact hd2
    obtain ⟨sl', e4⟩ := frameNe b _ e1 (I.base.free b o e n (nex b)) (by rw [hfrs]; exact List.mem_cons_of_mem _ hm) nf
    exact ⟨sl', e4⟩
  · by_cases hm : b ∈ X.fs
    · obtain ⟨sl, e1⟩ := I.base.slot b o e n hm (nex b)
      have nf : ∀ vs, o.data ≠ .fields vs := by
        obtain ⟨_, o2, ho2, hd2⟩ := I.ok.funs.mem hm
        rw [e] at ho2; cases ho2; exact hd2
      obtain ⟨sl', e4⟩ := frameNe b _ e1 (I.base.free b o e n (nex b)) (by rw [hfrs]; exact List.mem_cons_of_mem _ hm) nf
      have nea : b ≠ a := fun z => by
        rw [z, hoe] at e4; cases e4
        exact nf _ hoed
      rw [Ax nea]
      exact F.free b _ e1 (I.base.free b o e n (nex b))
    · have e1 := I.base.keep b o e n hm (nex b)
      have n1 := I.base.free b o e n (nex b)
      rw [Ax (hnotA b o (F.keep b o e1 n1 (old b o e hm)))]
      exact F.free b o e1 n1
  · by_cases hm : b ∈ X.fs
    · obtain ⟨_, o2, ho2, hd2⟩ := I.ok.funs.mem hm
      have nH := I.ok.frf b hm
      obtain ⟨sl, e1⟩ := I.base.slot b o e nH hm (nex b)
      rw [e] at ho2; cases ho2
      obtain ⟨sl', e4⟩ := frameNe b _ e1 (I.base.free b o e nH (nex b)) (by rw [hfrs]; exact List.mem_cons_of_mem _ hm) hd2
      exact ⟨_, e4⟩
    · obtain ⟨o1, e1⟩ := I.base.there b o e (nex b)
      obtain ⟨o2, e2⟩ := F.there b o1 e1 (old b o e hm)
      exact ⟨o2, st _ _ e2⟩
  · have e1 := F.tups _ _ (I.base.tups _ _ e)
    obtain ⟨_, _, _, o, ho, _⟩ := F.hok b _ e1
    rw [Ax (hnotA b o ho)]; exact e1
  · have e1 := F.frzs _ _ _ (I.base.frzs _ _ _ e)
    obtain ⟨ho, _⟩ := F.hok b _ e1
    rw [Ax (hnotA b o ho)]; exact e1
  · obtain ⟨m1, e1⟩ := I.base.tbls b ps e
    obtain ⟨m2, e2⟩ := F.tbls b _ e1
    have ho : B.get? b = some _ := F.hok b _ e2
    exact ⟨m1 ++ m2, by rw [Ax (hnotA b _ ho), e2, Array.append_assoc]⟩
  · obtain ⟨v, o, ho, hd⟩ := hcell x c e
    exact ⟨v, o, st _ _ ho, hd⟩
  · show upd H' a _ X.env.locals = none
    rw [Ax neL]
    exact F.free _ _ hoL I.free
  · obtain ⟨v, o, ho, hd⟩ := hcell x c e
    rw [Ax (hnotA c o ho)]
    obtain ⟨v1, o1, ho1, _⟩ := I.cell x c e
    exact F.free c o1 ho1 (I.freeC x c e)
  · obtain ⟨p1, p2, p3, p4, p5⟩ := I.pin p hp
    have hnot : p.1 ∉ frs X.stack := fun hm => by
      rw [hfrs] at hm
      rcases List.mem_cons.mp hm with z | z
      · exact p3 z
      · exact p4 z
    have e1 := F.keep p.1 p.2 p1 p2 hnot
    refine ⟨st _ _ e1, ?_, p3, p4, p5⟩
    rw [Ax (hnotA _ _ e1)]
    exact F.free _ _ p1 p2
  · by_cases hb : b = a
    · subst hb
      rw [Cb] at e; cases e
      refine ⟨⟨oe, ws, hoe, hoec, hoed⟩, ⟨oe, hoe⟩, fun h1 h2 ⟨o, vs, e1, e2, e3⟩ k => ⟨o, vs, k o e1, e2, e3⟩⟩
    · rw [Ax hb] at e
      have hne : ∀ c y, H' c = some y → c ≠ a := fun c y ec z => by
        subst z
        obtain ⟨oc, hc⟩ := Qd (F.hok c y ec)
        rw [aB] at hc; cases hc
      exact (F.hok b o e).stay (fun c u _ g => st c u g) (fun c z => by rw [Ax (hne c _ z)]; exact z) fun c xs z => by rw [Ax (hne c _ z)]; exact z
end DD
namespace DD
open PySem PySem.Spec L2
open PyProof.Rows hiding St
theorem gone (ok : X.Ok) (hN : X.N.Nodup) (hi : X.N[i]? = some n) (hex : X.ex = []) (I : L2.Inv (Cx.hd X a) pins sg H s)
    (hm3 : ∀ (i : Nat) (x : Str) (v : V), X.N[i]? = some x → sg[i]? = some (some v) → Vis X.env.scope x → ∃ u, RelV v u ∧ Look X.env s.heap m3 x u) (sb : Heap.SameBut X.env.locals s.heap h') (hn : h'.Ns X.env.locals (fun x => if x = n then w else m3 x)) : L2.Inv X pins (sg.set i none) H { s with heap := h', toks := tk } := by
  have oth : ∀ b o, b ≠ X.env.locals → s.heap.get? b = some o → h'.get? b = some o := fun b o n e => (sb.2 b n).trans e
  have oldn : ∀ b o, X.s₀.heap.get? b = some o → b ≠ X.env.locals := fun b o e z => by
    have := Heap.lt_size e
    rw [z] at this
    exact Nat.lt_irrefl _ (Nat.lt_of_lt_of_le this ok.above)
  have fL : H X.env.locals = none := I.free
  refine ⟨ok, I.os, I.bare, ⟨fun b o e n hn hx => oth _ _ (oldn b o e) (I.base.keep b o e n hn hx), fun b o e n hm hx => ?_, I.base.free, fun b o e hx => ?_, I.base.tups, I.base.frzs, I.base.tbls⟩, ⟨_, hn, fun j x v e1 e2 e3 => ?_⟩,
    fun x c e => ?_, I.free, I.freeC, fun p hp => ?_, fun b o e => ?_, by rw [List.length_set]; exact I.len⟩
  · obtain ⟨sl, e1⟩ := I.base.slot b o e n hm hx
    exact ⟨sl, oth _ _ (oldn b o e) e1⟩
  · obtain ⟨o', e1⟩ := I.base.there b o e hx
    exact ⟨o', oth _ _ (oldn b o e) e1⟩
  · have hji : j ≠ i := fun z => by
      subst z
      rw [List.getElem?_set] at e2
      simp at e2
    rw [List.getElem?_set_ne (Ne.symm hji)] at e2
    obtain ⟨u, r, k⟩ := hm3 j x v e1 e2 e3
    refine ⟨u, r, ?_⟩
    have hxn : x ≠ n := fun z => by
      subst z
      have := (List.getElem?_inj (List.getElem?_eq_some_iff.mp e1).1 hN).mp (e1.trans hi.symm)
      exact hji this
    rcases k with ⟨k1, k2⟩ | ⟨k1, c, k2, k3⟩
    · exact .inl ⟨k1, by simp only [if_neg hxn]; exact k2⟩
    · exact .inr ⟨k1, c, k2, k3.sameBut sb (I.cne x c k2)⟩
  · obtain ⟨v, z⟩ := I.cell x c e
    exact ⟨v, z.sameBut sb (I.cne x c e)⟩
  · obtain ⟨p1, p2, p3, p4, p5⟩ := I.pin p hp
    exact ⟨oth _ _ p3 p1, p2, p3, p4, p5⟩
  · refine (I.hok b o e).stay (fun c u hc g => oth c u ?_ g) (fun _ h => h) fun _ _ h => h
    intro z
    rcases hc with rfl | hc
    · rw [z, fL] at e; cases e
    · rw [z, fL] at hc; cases hc
def Xv (K : PySem.W.Frag) (Cx' : Addr) (n i : Nat) (ts : TS) (D : Ends) (C : Addr) (H : Hp) : Prop := PySem.W.exmOne K (.ref C) (.ref Cx') = some true ∧
 ∀ a, H a = none → ts { nx := fun sg2 H2 => D.nx (sg2.set i none) H2, rt := D.rt } ((List.replicate n none).set i (some (.ref a))) (upd H a (.ext (Gq a (.ref C))))
abbrev Cx.tr (X : Cx) (pn : List (Addr × Obj)) (xe : Value → Shared → Prop) : Cx := { X with pn := pn, xe := xe }
theorem Xw (I : L2.Inv X pins sg H s) : L2.Inv (Cx.tr X (X.pn ++ pins) xe) [] sg H s :=
 ⟨⟨I.ok.mod, I.ok.kind, I.ok.glob, I.ok.blt, I.ok.above, I.ok.inj, I.ok.has, I.ok.cab, I.ok.hd, I.ok.frames, I.ok.stk, I.ok.exf, I.ok.bs, I.ok.bsz, I.ok.noex, I.ok.exfs, I.ok.funs, I.ok.frf⟩, I.os, I.bare, I.base, I.loc, I.cell, I.free, I.freeC, fun p hp => I.pin p (by rw [List.append_nil] at hp; exact hp), I.hok, I.len⟩
theorem ib (I : L2.Inv (Cx.tr X (X.pn ++ pins) xe) pins' sg H s) : L2.Inv X pins sg H s :=
 ⟨⟨I.ok.mod, I.ok.kind, I.ok.glob, I.ok.blt, I.ok.above, I.ok.inj, I.ok.has, I.ok.cab, I.ok.hd, I.ok.frames, I.ok.stk, I.ok.exf, I.ok.bs, I.ok.bsz, I.ok.noex, I.ok.exfs, I.ok.funs, I.ok.frf⟩, I.os, I.bare, I.base, I.loc, I.cell, I.free, I.freeC, fun p hp => I.pin p (List.mem_append_left _ hp), I.hok, I.len⟩
theorem Xx (e : h.get? a = some o) (hc : o.cls = c) : PySem.W.Looks M h (typeOf (.ref a)) c := by
 subst hc
 exact (PySem.W.Looks.ld e).andThen .now
theorem xy {X : Cx} {body suite : List Stmt} {b₀ : Stmt} {x n : Str} {np hp pos : Pos} {i : Nat} {Cx' : Addr} {tb : XK → TS} {ts : TS} (hfn : ∀ y, X.fn y = true) (hstk : X.stack = X.env :: X.outer) (hfr : X.env.frame = some X.env.locals) (hex : X.ex = [])
    (hN : X.N.Nodup) (hi : X.N[i]? = some n) (hl : X.env.scope.names.lookup n = some .local) (hg : Gl X x) (hm : X.mg x = some (.ref Cx'))
    (hb : ∀ (pn : List (Addr × Obj)) (E0 : XK) (xe0 : Value → Shared → Prop), PassesOwn (model X.prog X.w) X.A X.env xe0 → Passes (CXd X.prog X.w) (Cx.tr X pn xe0) E0 → PSs (Cx.tr X pn xe0) body (tb E0)) (hs : ∀ a, PSs (Cx.hd X a) (b₀ :: suite) ts) (hd : (x == ("__debug__" : Str)) = false := by decide) :
    PS X (.Try body [.ExceptHandler (some (.Name x np)) (some n) (b₀ :: suite) hp] [] [] pos) (fun D sg H => sg.length = X.N.length → ∃ E0 : XK, (∀ C H', E0 (.ref C) none H' → Xv X.K Cx' X.N.length i ts D C H') ∧ tb E0 D sg H) := by
  intro pins s sg H D I h
  obtain ⟨E0, hE, h⟩ := h I.len
  refine wpAny_Try_except ?_
  have hkl : X.env.kindOf n = some .local := hl
  have hpk : (X.env.scope.kind == .class || (X.env.scope.kind == .module && X.env.locals != X.env.globals)) = false := by rw [I.ok.kind]; rfl
  refine wpAny_mono (hb (X.pn ++ pins) E0 _ PassesOwn.looking (fun pins' sg1 H1 e1 e s2 I1 h1 => ?_) [] s sg H D (Xw I) h) (fun f s1 q => ?_) (fun e s1 q => q)
  ·
    obtain ⟨C, a, t, H', B, rfl, F, q⟩ := h1
    have I1 : L2.Inv X pins sg1 H1 e1 := ib I1
    obtain ⟨ht, hsu⟩ := hE C H' q
    refine wpAny_looks_onW (by rw [I.ok.frames, hstk]) hfr (by rw [← hstk]; exact F.fly) fun h4 held4 us4 => ?_
    refine wpAny_landsW held4 fun h5 fly5 us5 => ?_
    have J5 := landed hfn hstk hfr hex I1 F (by rw [hstk]; exact fly5) (us4.trans us5)
    obtain ⟨ob, hob, hobc⟩ := fly5.there
    have hHa : H' a = none := by
      cases z : H' a with
      | none => rfl
      | some y =>
        obtain ⟨oc, hc⟩ := Qd (F.hok a y z)
        have := fly5.2.1
        rw [hc] at this; cases this
    refine wpAny_handleBy_cons (codeAny_handlers_test (Hn (X := Cx.hd X a) J5 hg hm ?_ hd)) (by intro q; cases q)
    refine PySem.W.exm_one (h := h5) J5.kIn (Xx hob hobc) ht _ _ _ _ (fun _ _ e => e) ?_
    rw [if_pos rfl]
    refine codeAny_handlers_suite_as ?_
    refine lands_againW fly5 fun h6 fly6 us6 => ?_
    have J6 := landed hfn hstk hfr hex I1 F (by rw [hstk]; exact fly6) ((us4.trans us5).trans us6)
    refine Jf (X := Cx.hd X a) (v := .ref a) J6 hN hi (.inl hl) rfl (fun s7 J7 => ?_) (.inl (hfn n))
    refine wpAny_mono (hs a pins s7 _ _ _ J7 (hsu a hHa)) (fun f s3 q3 => ?_) (fun _ _ z => z.elim)
    cases f with
    | next =>
      obtain ⟨sg3, H3, I3, q3⟩ := q3
      obtain ⟨m3, hn3, hm3⟩ := I3.loc
      exact wpAny_nameGoes_keeps hkl hn3 hpk fun h' v hn' sb => ⟨_, H3, gone I.ok hN hi hex I3 hm3 sb hn', q3⟩
    | ret v =>
      obtain ⟨x3, sg3, H3, I3, r3, q3⟩ := q3
      obtain ⟨m3, hn3, hm3⟩ := I3.loc
      exact wpAny_nameGoes_keeps hkl hn3 hpk fun h' v hn' sb => ⟨x3, _, H3, gone I.ok hN hi hex I3 hm3 sb hn', r3, q3⟩
    | brk => obtain ⟨_, _, _, z⟩ := q3; exact z.elim
    | cont => obtain ⟨_, _, _, z⟩ := q3; exact z.elim
  · cases f with
    | next =>
      obtain ⟨sg1, H1, I1, q⟩ := q
      exact wpAny_execs_nil ⟨sg1, H1, ib I1, q⟩
    | brk => obtain ⟨sg1, H1, I1, q⟩ := q; exact ⟨sg1, H1, ib I1, q⟩
    | cont => obtain ⟨sg1, H1, I1, q⟩ := q; exact ⟨sg1, H1, ib I1, q⟩
    | ret v => obtain ⟨x1, sg1, H1, I1, r, q⟩ := q; exact ⟨x1, sg1, H1, ib I1, r, q⟩
end DD
namespace DD
open PySem PySem.Spec PySem.W PySem.Calls PyProof.Rows Builtin Builtin.ObjectAttr Builtin.Getset_descriptor
structure ExcC (K : Frag) (C : Addr) : Prop where
 cl : (clsIn K C).isSome = true
 ga : findIn K (.ref C) "__getattribute__" = some (some (.builtin "BaseException.__getattribute__"))
 gn : findIn K (.ref C) "__getattr__" = some none
 ha : findIn K (.ref C) "__class__" = some (some (.builtin "object.__class__"))
 hn : specialIn K (.builtin "object.__class__") "__get__" = some (some (.builtin "getset_descriptor.__get__"))
 tk : takesIn K (.builtin "object.__class__") = some true
 ob : mroIn K C (.type "object") = some true
 be : mroIn K C (.type "BaseException") = some true
section
variable {prog : Program} {w : World} {A : Around} {E : Value → Shared → Prop} {s : Shared} {K : Frag} {x C : Addr}
theorem Xy (X : K.In s.heap) (L0 : Looks (model prog w) s.heap (typeOf (.ref x)) (.ref C)) (hm : mroIn K C (.type "object") = some true)
    (h : R (.ok (.ret (.ref C))) s) : codeAny (model prog w) A (.call (.builtin "getset_descriptor.__get__") ⟨[.builtin "object.__class__", .ref x, tp], []⟩) R s := by
  obtain ⟨hh, g, dr, t, os⟩ := s
  have L1 := looks_mroIn (M := model prog w) X hm
  refine codeAny_call_builtin KF.slot_gs.plain KF.entry_gs (KF.slot_gs.check _ _ _ _ _ _ _ _ KF.type_class (KF.args_gs _ _ _) ?_)
  unfold Builtin.«getset_descriptor.__get__» descrGet
  rw [dga_obj]
  refine wpAny_bind (wpAny_pure ?_)
  unfold descrGetter descrCheckInstance descrNameAndClass isInstance
  simp only [KF.owner_class]
  repeat lk
  refine ⟨Code.quiet_builtin _ (by decide +kernel), codeAny_builtin KF.entry_class ?_⟩
  unfold Builtin.«object.__class__» shownTypeOf
  repeat lk
  exact h
theorem Xz (X : K.In s.heap) (ec : ExcC K C) : Looks M s.heap (Builtin.ObjectAttr.find (.ref x) (.ref C) "__class__") (.bind (.builtin "getset_descriptor.__get__") (.builtin "object.__class__")) := by
 have L1 := looks_findIn (M := M) X ec.ha
 have L2 : Looks M s.heap (Builtin.ObjectAttr.getOf (some (.builtin "object.__class__"))) (some (.builtin "getset_descriptor.__get__")) := looks_specialIn X ec.hn
 have L3 := looks_takesIn (M := M) X ec.tk
 refine L1.andThen (L2.andThen ?_)
 exact (show Looks M s.heap (Builtin.ObjectAttr.dataDescriptor? (some (.builtin "object.__class__")) (some (.builtin "getset_descriptor.__get__"))) (some (.builtin "getset_descriptor.__get__", .builtin "object.__class__")) from L3.andThen .now).andThen (Looks.tag .now)
theorem ya (X : K.In s.heap) (ec : ExcC K C) (L0 : Looks (model prog w) s.heap (typeOf (.ref x)) (.ref C)) (hq : Q (.done (.ret (.ref C))) s) :
    wpAny (model prog w) A (Builtin.«object.__getattribute__» ⟨[.ref x, .str "__class__" tk], []⟩) Q E s := by
  have LF := Xz (x := x) X ec (M := model prog w)
  have hc := Xy (A := A) (tp := .ref C) (R := fun r s' => match r with | .ok (.ret v) => v = .ref C ∧ s' = s | _ => False) X L0 ec.ob ⟨rfl, rfl⟩
  obtain ⟨hh, g, dr, t, os⟩ := s
  unfold Builtin.«object.__getattribute__»
  repeat (first | (with_reducible refine wpAny_call (codeAny_mono hc fun r s' hr => ?_)) | lk)
  cases r with
  | error e => exact hr.elim
  | ok f =>
    cases f with
    | ret v => obtain ⟨rfl, rfl⟩ := hr; exact wpAny_pure hq
    | _ => exact hr.elim
theorem Ya (X : K.In s.heap) (ec : ExcC K C) (L0 : Looks (model prog w) s.heap (typeOf (.ref x)) (.ref C)) (hq : Q () s) :
    wpAny (model prog w) A (checkBuiltinCall "BaseException.__getattribute__" ⟨[.ref x, .str "__class__" tk], []⟩) Q E s := by
  have hk : builtinKind "BaseException.__getattribute__" = some .slot := by decide +kernel
  have hsplit : splitId "BaseException.__getattribute__" = some ("BaseException", "__getattribute__") := by decide +kernel
  have ha := F.args_bexc_ga (.ref x) (.str "__class__" tk)
  have L1 := looks_mroIn (M := model prog w) X ec.be
  obtain ⟨hh, g, dr, t, os⟩ := s
  simp only [checkBuiltinCall, hk, hsplit]
  refine wpAny_bind ?_
  unfold isInstance
  repeat (first | lk | wp_step)
  exact hq
theorem yb (X : K.In s.heap) (ec : ExcC K C) (L0 : Looks (model prog w) s.heap (typeOf (.ref x)) (.ref C)) (hq : R (.ok (.ret (.ref C))) s) :
    codeAny (model prog w) A (.call (.builtin "BaseException.__getattribute__") ⟨[.ref x, .str "__class__" tk], []⟩) R s :=
  codeAny_call_builtin (by decide +kernel) F.entry_bexc_ga (Ya X ec L0 (ya X ec L0 hq))
theorem Yb (X : K.In s.heap) (ec : ExcC K C) (L0 : Looks (model prog w) s.heap (typeOf (.ref x)) (.ref C)) (hq : Q (some (.ref C)) { s with toks := s.toks + 1 }) :
    wpAny (model prog w) A (getAttr? (.ref x) "__class__") Q E s := by
  have hx2 : (Value.builtin "BaseException.__getattribute__" == Value.builtin "object.__getattribute__") = false := by decide +kernel
  have L1 := looks_findIn (M := model prog w) X ec.ga
  have L2 := looks_findIn (M := model prog w) X ec.gn
  have hc := yb (s := { s with toks := s.toks + 1 }) (A := A) (tk := s.toks) (R := fun r s' => match r with | .ok (.ret v) => v = .ref C ∧ s' = { s with toks := s.toks + 1 } | _ => False) X ec L0 ⟨rfl, rfl⟩
  obtain ⟨hh, g, d, t, os⟩ := s
  unfold getAttr? getAttrBy? getAttrBy
  refine wpAny_bind (wpAny_mkText (wpAny_bind (wpAny_attempt (wpAny_holding (wpAny_bind (L0.at (wpAny_bind (L1.at ?_))))))))
  dsimp only
  rw [hx2, Bool.and_false, if_neg Bool.false_ne_true]
  have hb : bindSpecial (.builtin "BaseException.__getattribute__") (.ref x) = pure (.builtin "BaseException.__getattribute__", [.ref x]) := by
    have hop : withoutEnding? "BaseException.__getattribute__" "#opaque" = none := by decide +kernel
    have hdat : withoutEnding? "BaseException.__getattribute__" "#data" = none := by decide +kernel
    have hkd : builtinKind "BaseException.__getattribute__" = some .slot := by decide +kernel
    simp only [bindSpecial, typeOf, builtinType, hop, hdat, hkd]; rfl
  unfold getAttrByItsOwn hookBefore callGetattribute boundAndCalled
  rw [show onTheHeap (.ref C) = true from rfl, if_pos rfl]
  refine wpAny_bind (L2.at ?_)
  refine wpAny_bind (wpAny_attempt (wpAny_holding ?_))
  rw [if_neg (by simp)]
  refine wpAny_bind (wpAny_of_eq hb ?_)
  show wpAny (model prog w) A (call (.builtin "BaseException.__getattribute__") [.ref x, .str "__class__" t]) _ _ _
  refine wpAny_call (codeAny_mono hc fun r s' hr => ?_)
  cases r with
  | error e => exact hr.elim
  | ok f =>
    cases f with
    | ret v =>
      obtain ⟨rfl, rfl⟩ := hr
      exact wpAny_of_eq (handedOut_of rfl) (wpAny_pure hq)
    | _ => exact hr.elim
theorem yc (ec : ExcC K C) : KitX K (.ref x) (.ref C) (fun h => ∃ o, h.get? x = some o ∧ o.cls = .ref C) where
 ty := fun M h _ ⟨o, e, hc⟩ => hc ▸ (Looks.ld e).andThen .now
 it := fun _ _ X _ => by
  obtain ⟨cd, hcd⟩ := Option.isSome_iff_exists.mp ec.cl
  unfold clsIn at hcd
  split at hcd
  · rename_i c' d' cd' sl' ho
    intro A' Q' E' s' k q
    unfold isType loadHead
    exact wpAny_bind (wpAny_loadPart (k _ _ (X _ _ ho)) (wpAny_pure q))
  · cases hcd
 ne := fun h tp dd its n sl X htp => by
  obtain ⟨cd, hcd⟩ := Option.isSome_iff_exists.mp ec.cl
  refine Bool.eq_false_iff.mpr fun q => ?_
  have e : C = tp := Value.ref.inj (beq_iff_eq.mp q)
  subst e
  unfold clsIn at hcd
  split at hcd
  · rename_i ho
    have := X _ _ ho
    rw [htp] at this
    cases this
  · cases hcd
 ca := fun X ⟨o, e, hc⟩ hq => Yb X ec (hc ▸ (Looks.ld e).andThen .now) hq
end
end DD
namespace DD
open PySem PySem.Spec L2
variable {g : G} {X : Cx} {a b c : Expr} {a' b' c' : E} {pos : Pos}
theorem Me {H : Hp} {s : Shared} {rho : List Addr} {f : D → Option PyData}
    (hf : ∀ (d : D) (v : V) (u : Value) (p : PyData), g.Rep rho H d v → RelV v u → f d = some p → ∃ as, Reads s.heap u p as) :
    ∀ {ds : List D} {vs : List V} {us : List Value} {ps : List PyData}, g.RepL rho H ds vs → Vals vs us → Bh (ds.map f) = some ps → ∃ as, ReadsAll s.heap us ps as
  | [], vs, us, ps, r, rv, e => by
    simp only [RepL] at r; subst r
    cases rv
    simp [Bh] at e; subst e
    exact ⟨[], .nil⟩
  | d :: t, vs, us, ps, r, rv, e => by
    simp only [RepL] at r
    obtain ⟨v, w, rfl, r1, r2⟩ := r
    cases rv with
    | cons q1 q2 =>
      simp only [List.map_cons] at e
      cases ed : f d with
      | none => rw [ed] at e; simp [Bh] at e
      | some p =>
        rw [ed] at e
        simp only [Bh] at e
        cases et : Bh (t.map f) with
        | none => rw [et] at e; cases e
        | some ps' =>
          rw [et] at e; cases e
          obtain ⟨as, h1⟩ := hf _ _ _ _ r1 q1 ed
          obtain ⟨bs, h2⟩ := Me hf r2 q2 et
          exact ⟨as ++ bs, .cons h1 h2⟩
theorem reads (hK : X.K = g.K) (I : Inv X pins sg H s) (S : g.Sto rho st H) :
    ∀ (n : Nat) (d : D) (v : V) (u : Value) (p : PyData), g.Rep rho H d v → RelV v u → Ah st n d = some p → ∃ as, Reads s.heap u p as := by
  intro n
  induction n with
  | zero =>
    intro d v u p r rv e
    cases d with
    | non => cases Dy.mp r; simp [Ah] at e; subst e; cases rv; exact ⟨_, .none⟩
    | bl b => cases bc.mp r; simp [Ah] at e; subst e; cases rv; exact ⟨_, .bool b⟩
    | int i => cases ao.mp r; simp [Ah] at e; subst e; obtain ⟨t, rfl⟩ := rv; exact ⟨_, .int i t⟩
    | str x => cases Bx.mp r; simp [Ah] at e; obtain ⟨_, rfl⟩ := e; obtain ⟨t, rfl⟩ := rv; exact ⟨_, .str x t⟩
    | tup ds => simp [Ah] at e
    | loc m => simp [Ah] at e
  | succ n ih =>
    intro d v u p r rv e
    cases d with
    | non => cases Dy.mp r; simp [Ah] at e; subst e; cases rv; exact ⟨_, .none⟩
    | bl b => cases bc.mp r; simp [Ah] at e; subst e; cases rv; exact ⟨_, .bool b⟩
    | int i => cases ao.mp r; simp [Ah] at e; subst e; obtain ⟨t, rfl⟩ := rv; exact ⟨_, .int i t⟩
    | str x => cases Bx.mp r; simp [Ah] at e; obtain ⟨_, rfl⟩ := e; obtain ⟨t, rfl⟩ := rv; exact ⟨_, .str x t⟩
    | tup ds =>
      obtain ⟨a, vs, rfl, q, rl⟩ := Cp.mp r
      simp only [Ah] at e
      cases eo : Bh (ds.map (Ah st n)) with
      | none => rw [eo] at e; cases e
      | some ps =>
        rw [eo] at e; cases e
        rw [← hK] at q
        obtain ⟨its, rvs, ⟨o, ho, hc, n', hd⟩, _⟩ := I.tuple q
        obtain ⟨as, h2⟩ := Me ih rl rvs eo
        cases rv
        exact ⟨as, .tuple ho hc hd (by simpa using h2)⟩
    | loc m =>
      simp only [Ah] at e
      cases el : af st m with
      | none => rw [el] at e; cases e
      | some ds =>
        rw [el] at e
        simp only [Option.bind_some] at e
        cases eo : Bh (ds.map (Ah st n)) with
        | none => rw [eo] at e; cases e
        | some ps =>
          rw [eo] at e; cases e
          obtain ⟨a, vs, hr, q, rl⟩ := dz S el
          obtain ⟨a2, h1, h2⟩ := bf.mp r
          rw [hr] at h1; cases h1
          subst h2
          rw [← hK] at q
          obtain ⟨its, rvs, ⟨o, n', ho, hc, _, hd⟩, _⟩ := I.list q
          obtain ⟨as, h3⟩ := Me ih rl rvs eo
          cases rv
          exact ⟨a :: as, .list ho hc hd (by simpa using h3)⟩
theorem Ib : ∀ (n : Nat) (d : D) (p : PyData), Ah st n d = some p → p.canLay0 = true ∧ p.depth ≤ n := by
 have all : ∀ (n : Nat), (∀ (d : D) (p : PyData), Ah st n d = some p → p.canLay0 = true ∧ p.depth ≤ n) → ∀ (ds : List D) (ps : List PyData), Bh (ds.map (Ah st n)) = some ps → PyData.canLayAll0 ps = true ∧ PyData.depthAll ps ≤ n := by
  intro n ih ds
  induction ds with
  | nil => intro ps e; simp [Bh] at e; subst e; exact ⟨rfl, Nat.zero_le _⟩
  | cons d t ih2 =>
   intro ps e
   simp only [List.map_cons] at e
   cases ed : Ah st n d with
   | none => rw [ed] at e; simp [Bh] at e
   | some p =>
    rw [ed] at e
    simp only [Bh] at e
    cases et : Bh (t.map (Ah st n)) with
    | none => rw [et] at e; cases e
    | some ps' =>
     rw [et] at e; cases e
     obtain ⟨h1, h2⟩ := ih _ _ ed
     obtain ⟨h3, h4⟩ := ih2 _ et
     exact ⟨by simp only [PyData.canLayAll0, h1, h3, Bool.and_self], by simp only [PyData.depthAll]; exact Nat.max_le.mpr ⟨h2, h4⟩⟩
 intro n
 induction n with
 | zero =>
  intro d p e
  cases d <;> simp [Ah] at e <;> first | (subst e; exact ⟨rfl, Nat.zero_le _⟩) | (obtain ⟨h, rfl⟩ := e; exact ⟨h, Nat.zero_le _⟩)
 | succ n ih =>
  intro d p e
  cases d with
  | non => simp [Ah] at e; subst e; exact ⟨rfl, Nat.zero_le _⟩
  | bl b => simp [Ah] at e; subst e; exact ⟨rfl, Nat.zero_le _⟩
  | int i => simp [Ah] at e; subst e; exact ⟨rfl, Nat.zero_le _⟩
  | str x => simp [Ah] at e; obtain ⟨h, rfl⟩ := e; exact ⟨h, Nat.zero_le _⟩
  | tup ds =>
   simp only [Ah] at e
   cases eo : Bh (ds.map (Ah st n)) with
   | none => rw [eo] at e; cases e
   | some ps =>
    rw [eo] at e; cases e
    obtain ⟨h1, h2⟩ := all n ih _ _ eo
    exact ⟨h1, by simp only [PyData.depth]; omega⟩
  | loc m =>
   simp only [Ah] at e
   cases el : af st m with
   | none => rw [el] at e; cases e
   | some ds =>
    rw [el] at e
    simp only [Option.bind_some] at e
    cases eo : Bh (ds.map (Ah st n)) with
    | none => rw [eo] at e; cases e
    | some ps =>
     rw [eo] at e; cases e
     obtain ⟨h1, h2⟩ := all n ih _ _ eo
     exact ⟨h1, by simp only [PyData.depth]; omega⟩
theorem Jq (h : Ah st n d = some p) (hn : n ≤ 64) : SeqAt.shaped p = true := by
 obtain ⟨h1, h2⟩ := Ib n d p h
 unfold SeqAt.shaped
 rw [h1, decide_eq_true (by omega : p.depth ≤ 64)]
 rfl
def jr (g : G) (neg : Bool) : R2 := fun x y H Q => ∃ rho st d e p q, g.Sto rho st H ∧ g.Rep rho H d x ∧ g.Rep rho H e y ∧ Ah st 40 d = some p ∧ Ah st 40 e = some q ∧ Q (.bl (if neg then !PyData.eqv p q else PyData.eqv p q)) H
theorem mf (hK : X.K = g.K) (hu : X.A.units + 64 < cLine) : OpR X (compareOp .Eq) (jr g false) := by
 intro pins s sg H x y v u Q I rx ry h
 obtain ⟨rho, st, d, e, p, q, S, r1, r2, e1, e2, hq⟩ := h
 obtain ⟨as, h1⟩ := reads hK I S 40 d x v p r1 rx e1
 obtain ⟨bs, h2⟩ := reads hK I S 40 e y u q r2 ry e2
 exact SeqAt.compareEq_shaped h1 h2 (Jq e1 (by decide)) (Jq e2 (by decide)) hu ⟨.bl _, H, I, rfl, hq⟩
theorem qe (hK : X.K = g.K) (hu : X.A.units + 64 < cLine) : OpR X (compareOp .NotEq) (jr g true) := by
 intro pins s sg H x y v u Q I rx ry h
 obtain ⟨rho, st, d, e, p, q, S, r1, r2, e1, e2, hq⟩ := h
 obtain ⟨as, h1⟩ := reads hK I S 40 d x v p r1 rx e1
 obtain ⟨bs, h2⟩ := reads hK I S 40 e y u q r2 ry e2
 exact SeqAt.compareNe_shaped h1 h2 (Jq e1 (by decide)) (Jq e2 (by decide)) hu ⟨.bl _, H, I, rfl, hq⟩
theorem Jr {st : Sto} {x y : D} {b : Bool} (h : eqV st x y = some b) : ∃ p q, Ah st 40 x = some p ∧ Ah st 40 y = some q ∧ b = PyData.eqv p q := by
 unfold eqV at h
 cases e1 : Ah st 40 x with
 | none => rw [e1] at h; cases h
 | some p =>
  cases e2 : Ah st 40 y with
  | none => rw [e1, e2] at h; cases h
  | some q => rw [e1, e2] at h; cases h; exact ⟨p, q, rfl, rfl, rfl⟩
end DD
namespace DD
open PySem PySem.Spec L2
open PyProof.Rows hiding St RelV
def pyN : Nat → D → PyData
 | _, .int i => .int i
 | _, .str x => .str x
 | n + 1, .tup ds => .tuple (ds.map (pyN n))
 | _, _ => .none
end DD
namespace DD
open PySem PySem.Spec L2
open PyProof.Rows hiding St RelV
variable {g : G} {X : Cx} {pos apos cpos : Pos} {F : Nat} {a b c : Expr} {a' b' c' : E}
end DD
namespace DD
open PySem PySem.Spec L2
variable {g : G} {X : Cx} {a b c : Expr} {a' b' c' : E} {pos : Pos}
theorem js (h : cmD k x y st = .ok d st') : ∃ b, d = .bl b := by
 cases k <;> simp only [cmD] at h <;> (repeat' (split at h)) <;> first | (cases h; exact ⟨_, rfl⟩) | cases h
theorem cmT (q : tT g (.cm k a' b') sg H Q) : tE g (.cm k a' b') sg H (fun x H' => ∃ z, x = .bl z ∧ Q z H') := by
 obtain ⟨rho, st, env, s, n, q⟩ := q
 refine ⟨rho, st, env, s, n, ?_⟩
 simp only [Aj] at q
 simp only [Aa]
 revert q
 cases Aa g.tab g.call a' env st with
 | bad => exact fun q => q
 | exc c st1 => exact fun q => q
 | ok x st1 =>
  simp only [ay]
  cases Aa g.tab g.call b' env st1 with
  | bad => exact fun q => q
  | exc c st2 => exact fun q => q
  | ok y st2 =>
   simp only [ay]
   cases e : cmD k x y st2 with
   | bad => exact fun q => q
   | exc c st3 => exact fun q => q
   | ok d st3 =>
    obtain ⟨z, rfl⟩ := js e
    simp only [ay]
    intro q v H' rho' k1 s1 r1
    exact ⟨z, bc.mp r1, (show dh g rho H Q z st3 from q) H' rho' k1 s1⟩
theorem Qe  {sg : L2.St} {H : Hp} {Q : VK} (q : tE g (.cm .eq a' b') sg H Q) : tOp (jr g false) (tE g a') (tE g b') sg H Q := by
 obtain ⟨rho, st, env, s, n, q⟩ := q
 simp only [Aa] at q
 refine two (k := cmD .eq) ?_ s n q
 intro x y u v st rho H Q s rx ry q
 simp only [cmD] at q
 cases e : eqV st x y with
 | none => rw [e] at q; exact q.elim
 | some z =>
  rw [e] at q
  obtain ⟨p1, p2, h1, h2, rfl⟩ := Jr e
  exact ⟨rho, st, x, y, p1, p2, s, rx, ry, h1, h2, (show Al g rho H Q (.bl _) st from q) _ H rho (.refl _ _) s (bc.mpr rfl)⟩
theorem Mf (hK : X.K = g.K) (hu : X.A.units + 64 < cLine) (ha : Sd g X a a') (hb : Sd g X b b') : Sd g X (.Compare a [.Eq] [b] pos) (.cm .eq a' b') := Ay (Pa (mf hK hu) ha hb (Hr _)) fun sg H Q q => Qe q
theorem Fm (hK : X.K = g.K) (hu : X.A.units + 64 < cLine) (ha : Sd g X a a') (hb : Sd g X b b') : SdT g X (.Compare a [.Eq] [b] pos) (.cm .eq a' b') := eu (Gn (mf hK hu) ha hb (Hr _)) fun sg H Q q => Qe (cmT q)
theorem Yc  {sg : L2.St} {H : Hp} {Q : VK} (q : tE g (.cm .ne a' b') sg H Q) : tOp (jr g true) (tE g a') (tE g b') sg H Q := by
 obtain ⟨rho, st, env, s, n, q⟩ := q
 simp only [Aa] at q
 refine two (k := cmD .ne) ?_ s n q
 intro x y u v st rho H Q s rx ry q
 simp only [cmD] at q
 cases e : eqV st x y with
 | none => rw [e] at q; exact q.elim
 | some z =>
  rw [e] at q
  obtain ⟨p1, p2, h1, h2, rfl⟩ := Jr e
  exact ⟨rho, st, x, y, p1, p2, s, rx, ry, h1, h2, (show Al g rho H Q (.bl _) st from q) _ H rho (.refl _ _) s (bc.mpr rfl)⟩
theorem Mg (hK : X.K = g.K) (hu : X.A.units + 64 < cLine) (ha : Sd g X a a') (hb : Sd g X b b') : SdT g X (.Compare a [.NotEq] [b] pos) (.cm .ne a' b') := eu (Gn (qe hK hu) ha hb (Hr _)) fun sg H Q q => Yc (cmT q)
theorem ints2 {r : Int → Int → Bool} {k : Cm} (hk : ∀ x y st, cmD k x y st = match x, y with | .int i, .int j => .ok (.bl (r i j)) st | _, _ => .bad) {sg : L2.St} {H : Hp} {Q : VK}
    (q : tE g (.cm k a' b') sg H Q) : tOp (rI0 fun i j => .bl (r i j)) (tE g a') (tE g b') sg H Q := by
  obtain ⟨rho, st, env, s, n, q⟩ := q
  simp only [Aa] at q
  refine two (k := cmD k) ?_ s n q
  intro x y u v st rho H Q s rx ry q
  rw [hk] at q
  cases x with
  | int i =>
    cases y with
    | int j => exact ⟨i, j, ao.mp rx, ao.mp ry, q _ H rho (.refl _ _) s (bc.mpr rfl)⟩
    | _ => exact q.elim
  | _ => exact q.elim
theorem yd (ha : Sd g X a a') (hb : Sd g X b b') : SdT g X (.Compare a [.Lt] [b] pos) (.cm .lt a' b') := eu (Gn oz ha hb (Hr _)) fun sg H Q q => ints2 (fun x y st => by cases x <;> cases y <;> rfl) (cmT q)
theorem Yd (ha : Sd g X a a') (hb : Sd g X b b') : SdT g X (.Compare a [.Gt] [b] pos) (.cm .gt a' b') := eu (Gn Oz ha hb (Hr _)) fun sg H Q q => ints2 (fun x y st => by cases x <;> cases y <;> rfl) (cmT q)
theorem Js (s : g.Sto rho st H) (r : g.Rep rho H d v) (h : Cn st d = some ds) : ∃ p vs, v = .ref p ∧ (SqL g.K H p vs ∨ SqT g.K H p vs) ∧ g.RepL rho H ds vs := by
 cases d with
 | tup xs =>
  simp only [Cn] at h; cases h
  obtain ⟨p, vs, e, q, rl⟩ := Cp.mp r
  exact ⟨p, vs, e, .inr q, rl⟩
 | loc n =>
  simp only [Cn] at h
  obtain ⟨p, vs, h1, q, rl⟩ := dz s h
  obtain ⟨p2, h2, e⟩ := bf.mp r
  rw [h1] at h2; cases h2
  exact ⟨p, vs, e, .inl q, rl⟩
 | _ => cases h
theorem jt {a b : D} {k : Key} (h : kD a = some k) (h2 : kD b = some k) : a = b := by
 cases a <;> cases b <;> simp only [kD, Option.some.injEq, reduceCtorEq] at h h2 <;> first | (rw [← h] at h2; cases h2; rfl) | (rw [← h] at h2; cases h2)
theorem ic {a : D} (h : Bv a = true) : ∃ k, kD a = some k := by
 cases a <;> simp [Bv] at h <;> exact ⟨_, rfl⟩
theorem Ic {rho : List Addr} {H : Hp} {a : D} {v : V} {k : Key} (r : g.Rep rho H a v) (h : kD a = some k) : v = kV k := by
 cases a with
 | int i => cases ao.mp r; cases h; rfl
 | str x => cases Bx.mp r; cases h; rfl
 | _ => cases h
theorem mh {rho : List Addr} {H : Hp} {a : D} {k : Key} (ha : kD a = some k) : ∀ {kvs : List (D × D)} {ws : List (Key × V)}, Aq g.K rho H kvs ws →
    (∀ x, Co kvs a = some x → ∃ v, Cd ws k = some v ∧ g.Rep rho H x v) ∧ (Co kvs a = none → Cd ws k = none)
  | [], ws, h => by
    simp only [Aq] at h; subst h
    exact ⟨fun x e => by simp [Co] at e, fun _ => rfl⟩
  | (b, d) :: r, ws, h => by
    simp only [Aq] at h
    obtain ⟨k', v, t, rfl, hk, rp, rest⟩ := h
    by_cases e : b = a
    · subst e
      rw [ha] at hk; cases hk
      refine ⟨fun x ex => ⟨v, by simp [Cd], ?_⟩, fun en => by simp [Co] at en⟩
      simp [Co] at ex; subst ex; exact rp
    · have hkk : k' ≠ k := fun z => e (jt (by rw [hk, z]) ha)
      obtain ⟨h1, h2⟩ := mh ha rest
      refine ⟨fun x ex => ?_, fun en => ?_⟩
      · obtain ⟨v', e1, e2⟩ := h1 x (by simpa [Co, e] using ex)
        exact ⟨v', by simpa [Cd, hkk] using e1, e2⟩
      · have := h2 (by simpa [Co, e] using en)
        simpa [Cd, hkk] using this
theorem gb (s : g.Sto rho st H) (h : Az st n = some kvs) : ∃ a ws, rho[n]? = some a ∧ st[n]? = some (.dct kvs) ∧ H a = some (.dK ws) ∧ Aq g.K rho H kvs ws := by
 unfold Az at h
 split at h
 · rename_i kvs' e
   cases h
   have hl : n < rho.length := by rw [s.len]; exact (List.getElem?_eq_some_iff.mp e).1
   obtain ⟨ws, h1, h2⟩ := s.cells n rho[n] _ (List.getElem?_eq_getElem hl) e
   exact ⟨rho[n], ws, List.getElem?_eq_getElem hl, e, h1, h2⟩
 · cases h
def Jt (g : G) (neg : Bool) : R2 := fun x y H Q => ∃ rho st a b z, g.Sto rho st H ∧ g.Rep rho H a x ∧ g.Rep rho H b y ∧ inD st a b = some z ∧ Q (.bl (if neg then !z else z)) H
theorem ye {st : Sto} {a b : D} {z : Bool} (h : inS st a b = some z) : ∃ p ys, Ah st 40 a = some p ∧ (Ah st 41 b = some (.list ys) ∨ Ah st 41 b = some (.tuple ys)) ∧ z = ys.any fun y => PyData.eqv y p := by
 unfold inS at h
 split at h
 · rename_i x ys e1 e2; cases h; exact ⟨x, ys, e1, .inl e2, rfl⟩
 · rename_i x ys e1 e2; cases h; exact ⟨x, ys, e1, .inr e2, rfl⟩
 · cases h
theorem ju {A : Around} (hu : A.units + 64 < cLine) {a b : Nat} (hb : b ≤ 40) : A.units + 1 + min a b < cLine := by
 have : min a b ≤ b := Nat.min_le_right _ _
 omega
theorem qf (hK : X.K = g.K) (hu : X.A.units + 64 < cLine) {pins : List (Addr × Obj)} {s : Shared} {sg : L2.St} {H : Hp} {rho : List Addr} {st : Sto} {a b : D} {x y : V} {v u : Value} {z : Bool} {Q : VK} (I : Inv X pins sg H s) (S : g.Sto rho st H) (r1 : g.Rep rho H a x) (r2 : g.Rep rho H b y) (rx : RelV x v) (ry : RelV y u)
    (h : inS st a b = some z) : (Q (.bl z) H → wpAny (model X.prog X.w) X.A (compareOp .In v u) (EP X pins sg Q) X.xe s) ∧ (Q (.bl (!z)) H → wpAny (model X.prog X.w) X.A (compareOp .NotIn v u) (EP X pins sg Q) X.xe s) := by
  obtain ⟨p, ys, e1, e2, rfl⟩ := ye h
  obtain ⟨as, h1⟩ := reads hK I S 40 a x v p r1 rx e1
  obtain ⟨c1, c2⟩ := Ib 40 a p e1
  rcases e2 with e2 | e2
  · obtain ⟨bs, h2⟩ := reads hK I S 41 b y u _ r2 ry e2
    obtain ⟨c3, c4⟩ := Ib 41 b _ e2
    exact ⟨fun q => PySem.SeqAt.in_list_reads h2 h1 c3 c1 (ju hu c2) ⟨.bl _, H, I, rfl, q⟩, fun q => PySem.SeqAt.notIn_list_reads h2 h1 c3 c1 (ju hu c2) ⟨.bl _, H, I, rfl, q⟩⟩
  · obtain ⟨bs, h2⟩ := reads hK I S 41 b y u _ r2 ry e2
    obtain ⟨c3, c4⟩ := Ib 41 b _ e2
    exact ⟨fun q => PySem.SeqAt.in_tuple_reads h2 h1 c3 c1 (ju hu c2) ⟨.bl _, H, I, rfl, q⟩, fun q => PySem.SeqAt.notIn_tuple_reads h2 h1 c3 c1 (ju hu c2) ⟨.bl _, H, I, rfl, q⟩⟩
theorem Ju (hK : X.K = g.K) (hw : g.cls.w = X.w) (hu : X.A.units + 64 < cLine) {pins : List (Addr × Obj)} {s : Shared} {sg : L2.St} {H : Hp} {rho : List Addr} {st : Sto} {a b : D} {x y : V} {v u : Value} {z : Bool} {Q : VK} (I : Inv X pins sg H s) (S : g.Sto rho st H) (r1 : g.Rep rho H a x) (r2 : g.Rep rho H b y) (rx : RelV x v) (ry : RelV y u)
    (h : inD st a b = some z) : (Q (.bl z) H → wpAny (model X.prog X.w) X.A (compareOp .In v u) (EP X pins sg Q) X.xe s) ∧ (Q (.bl (!z)) H → wpAny (model X.prog X.w) X.A (compareOp .NotIn v u) (EP X pins sg Q) X.xe s) := by
  cases b with
  | str t =>
    simp only [inD] at h
    cases a with
    | str w =>
      cases h
      cases Bx.mp r1; cases Bx.mp r2
      exact ⟨fun q => vm pins s sg H _ _ v u Q I rx ry ⟨_, _, rfl, rfl, q⟩, fun q => Vn pins s sg H _ _ v u Q I rx ry ⟨_, _, rfl, rfl, q⟩⟩
    | _ => cases h
  | loc n =>
    simp only [inD] at h
    cases e : Az st n with
    | none =>
      rw [e] at h
      simp only at h
      cases e9 : dt st n with
      | none => rw [e9] at h; exact qf hK hu I S r1 r2 rx ry h
      | some kvs => cases e9
    | some kvs =>
      rw [e] at h
      simp only at h
      split at h
      · rename_i hk
        cases h
        obtain ⟨k, ek⟩ := ic hk
        obtain ⟨p, ws, h1, _, h2, h3⟩ := gb S e
        obtain ⟨p2, h4, rfl⟩ := bf.mp r2
        rw [h1] at h4; cases h4
        cases Ic r1 ek
        obtain rfl : u = Value.ref p := ry
        have ev : (Co kvs a).isSome = (Cd ws k).isSome := by
          obtain ⟨l1, l2⟩ := mh ek h3
          cases z : Co kvs a with
          | none => rw [l2 z]; rfl
          | some x => obtain ⟨v, e1, _⟩ := l1 x z; rw [e1]; rfl
        rw [ev]
        exact ⟨fun q => Xe (by omega) I (dn.k h2) rx fun s' I' => ⟨.bl _, H, I', rfl, q⟩, fun q => xf (by omega) I (dn.k h2) rx fun s' I' => ⟨.bl _, H, I', rfl, q⟩⟩
      · cases h
  | _ => exact qf hK hu I S r1 r2 rx ry h
theorem Qf (hK : X.K = g.K) (hw : g.cls.w = X.w) (hu : X.A.units + 64 < cLine) : OpR X (compareOp .In) (Jt g false) := by
 rintro pins s sg H x y v u Q I rx ry ⟨rho, st, a, b, z, S, r1, r2, h, q⟩
 exact (Ju hK hw hu I S r1 r2 rx ry h).1 q
theorem Ye (hK : X.K = g.K) (hw : g.cls.w = X.w) (hu : X.A.units + 64 < cLine) : OpR X (compareOp .NotIn) (Jt g true) := by
 rintro pins s sg H x y v u Q I rx ry ⟨rho, st, a, b, z, S, r1, r2, h, q⟩
 exact (Ju hK hw hu I S r1 r2 rx ry h).2 q
theorem qg {sg : L2.St} {H : Hp} {Q : VK} (q : tE g (.cm .inL a' b') sg H Q) : tOp (Jt g false) (tE g a') (tE g b') sg H Q := by
 obtain ⟨rho, st, env, s, n, q⟩ := q
 simp only [Aa] at q
 refine two (k := cmD .inL) ?_ s n q
 intro x y u v st rho H Q s rx ry q
 simp only [cmD] at q
 cases e : inD st x y with
 | none => rw [e] at q; exact q.elim
 | some z =>
  rw [e] at q
  exact ⟨rho, st, x, y, z, s, rx, ry, e, (show Al g rho H Q (.bl _) st from q) _ H rho (.refl _ _) s (bc.mpr rfl)⟩
theorem yf {sg : L2.St} {H : Hp} {Q : VK} (q : tE g (.cm .notIn a' b') sg H Q) : tOp (Jt g true) (tE g a') (tE g b') sg H Q := by
 obtain ⟨rho, st, env, s, n, q⟩ := q
 simp only [Aa] at q
 refine two (k := cmD .notIn) ?_ s n q
 intro x y u v st rho H Q s rx ry q
 simp only [cmD] at q
 cases e : inD st x y with
 | none => rw [e] at q; exact q.elim
 | some z =>
  rw [e] at q
  exact ⟨rho, st, x, y, z, s, rx, ry, e, (show Al g rho H Q (.bl _) st from q) _ H rho (.refl _ _) s (bc.mpr rfl)⟩
theorem Yf (hK : X.K = g.K) (hw : g.cls.w = X.w) (hu : X.A.units + 64 < cLine) (ha : Sd g X a a') (hb : Sd g X b b') (hm : behindInMarks .NotIn b = false := by rfl) : SdT g X (.Compare a [.NotIn] [b] pos) (.cm .notIn a' b') := eu (Gn (Ye hK hw hu) ha hb hm) fun sg H Q q => yf (cmT q)
theorem Qg (hK : X.K = g.K) (hw : g.cls.w = X.w) (hu : X.A.units + 64 < cLine) (ha : Sd g X a a') (hb : Sd g X b b') (hm : behindInMarks .In b = false := by rfl) : Sd g X (.Compare a [.In] [b] pos) (.cm .inL a' b') := Ay (Pa (Qf hK hw hu) ha hb hm) fun sg H Q q => qg q
theorem yg (hK : X.K = g.K) (hw : g.cls.w = X.w) (hu : X.A.units + 64 < cLine) (ha : Sd g X a a') (hb : Sd g X b b') (hm : behindInMarks .In b = false := by rfl) : SdT g X (.Compare a [.In] [b] pos) (.cm .inL a' b') := eu (Gn (Qf hK hw hu) ha hb hm) fun sg H Q q => qg (cmT q)
theorem Yg (r : g.RepL rho H ds vs) (h : atD ds i = some d) : ∃ v, atI vs i = some v ∧ g.Rep rho H d v := by
 unfold atD atI at h
 have hl := r.length
 cases e : ixN ds.length i with
 | none => rw [e] at h; cases h
 | some j =>
  rw [e] at h
  obtain ⟨v, e1, r1⟩ := r.get h
  refine ⟨v, ?_, r1⟩
  unfold atI
  rw [← hl, e]
  exact e1
theorem yh (hu : X.A.units + 1 < cLine) : IxR X (fun x y H Q => ∃ a v, x = .ref a ∧ dn H a y (some v) ∧ Q v H) := by
 intro value slice pins s sg H x y v u Q I rx ry h hs
 obtain ⟨a, w, rfl, gt, q⟩ := h
 obtain rfl : v = Value.ref a := rx
 have hT := xg I gt
 exact PyProof.Rows.tail_any hT PySem.F.slot_dict_getitem.lookup (Xd hu I gt ry fun w' s3 I3 rw' => ⟨w, H, I3, rw', q⟩) hs
theorem Am (hK : X.K = g.K) (hw : g.cls.w = X.w) (hu : X.A.units + 64 < cLine) (ha : Sd g X a a') (hb : Sd g X b b') (hs : Pm b) : Sd g X (.Subscript a b pos) (.ix a' b') := Ay (Wn (Wq.or (yh (by omega))) ha hb hs) fun sg H Q q => by
 obtain ⟨rho, st, env, s, n, q⟩ := q
 simp only [Aa] at q
 refine two (k := ixD) ?_ s n q
 intro x y u v st rho H Q s rx ry q
 have seq : RQ g (ixS x y st) (Al g rho H Q) rho H → rIx X.K u v H Q := by
  intro q
  cases y with
  | int i =>
   simp only [ixS] at q
   split at q
   · rename_i xs e
     split at q
     · rename_i d ed
       obtain ⟨p, vs, rfl, sq, rl⟩ := Js s rx e
       obtain ⟨w, e1, r1⟩ := Yg rl ed
       have fin : Q w H := (show Al g rho H Q d st from q) _ H rho (.refl _ _) s r1
       rw [← hK] at sq
       rcases sq with sq | sq
       · exact .inl ⟨p, vs, i, w, rfl, ao.mp ry, sq, e1, fin⟩
       · exact .inr (.inl ⟨p, vs, i, w, rfl, ao.mp ry, sq, e1, fin⟩)
     · exact q.elim
   · split at q
     · rename_i z _
       split at q
       · rename_i c ec
         split at q
         · rename_i hz
           exact .inr (.inr ⟨_, i, c, Bx.mp rx, ao.mp ry, hz, ec, (show Al g rho H Q _ st from q) _ H rho (.refl _ _) s (Bx.mpr rfl)⟩)
         · exact q.elim
       · exact q.elim
     · exact q.elim
  | _ => exact q.elim
 cases x with
 | loc n =>
  simp only [ixD] at q
  cases e : Az st n with
  | none =>
   rw [e] at q
   simp only at q
   cases e9 : dt st n with
   | none => rw [e9] at q; exact .inl (seq q)
   | some kvs => cases e9
  | some kvs =>
   rw [e] at q
   simp only at q
   split at q
   · rename_i hk
     split at q
     · rename_i d ed
       obtain ⟨k, ek⟩ := ic hk
       obtain ⟨p, ws, h1, _, h2, h3⟩ := gb s e
       obtain ⟨p2, h4, rfl⟩ := bf.mp rx
       rw [h1] at h4; cases h4
       cases Ic ry ek
       obtain ⟨w, e1, e2⟩ := (mh ek h3).1 d ed
       exact .inr (⟨p, w, rfl, by rw [← e1]; exact dn.k h2, (show Al g rho H Q d st from q) _ H rho (.refl _ _) s e2⟩)
     · exact q.elim
   · exact q.elim
 | _ => exact .inl (seq q)
end DD
namespace DD
open PySem PySem.Spec L2
variable {g : G} {X : Cx} {a b c : Expr} {a' b' c' : E} {pos : Pos} {rest es : List Expr} {es' : Es}
theorem ie {op} (h : Sd g X a a') : Sd g X (.BoolOp op [a] pos) a' := Ur h
theorem Gr (ha : Sd g X a a') (hb : Sd g X (.BoolOp .And (b :: rest) pos) b') : Sd g X (.BoolOp .And (a :: b :: rest) pos) (.andE a' b') := Ay (Us ha hb) fun sg H Q q => by
 obtain ⟨rho, st, env, s, n, q⟩ := q
 simp only [Aa] at q
 refine step s n q fun x st1 u H1 r1 k1 s1 n1 rp q1 => ?_
 cases x with
 | bl t =>
  cases t with
  | true => exact ⟨true, bc.mp rp, Hy ⟨r1, st1, env, s1, n1, RQ.mono (.refl _ _) q1 fun _ _ p => p.mono k1⟩⟩
  | false => exact ⟨false, bc.mp rp, Hx ((show Al g rho H Q (.bl false) st1 from q1) _ H1 r1 k1 s1 (bc.mpr rfl))⟩
 | _ => exact q1.elim
theorem Yh (ha : Sd g X a a') : Sd g X (.UnaryOp .Not a pos) (.notE a') := Ay (Ut ha) fun sg H Q q => by
 obtain ⟨rho, st, env, s, n, q⟩ := q
 simp only [Aa] at q
 refine step s n q fun x st1 u H1 r1 k1 s1 n1 rp q1 => ?_
 cases x with
 | bl t => exact ⟨t, bc.mp rp, (show Al g rho H Q (.bl (!t)) st1 from q1) _ H1 r1 k1 s1 (bc.mpr rfl)⟩
 | _ => exact q1.elim
theorem bts {r : List V → Hp → VK → Prop} {f : Bt} (hr : ∀ ds vs st rho H Q, g.Sto rho st H → g.RepL rho H ds vs → RQ g (btD f ds st) (Al g rho H Q) rho H → r vs H Q) {sg : L2.St} {H : Hp} {Q : VK} (q : tE g (.bt f es') sg H Q) : tCB r (tEs g es') sg H Q := by
 obtain ⟨rho, st, env, s, n, q⟩ := q
 simp only [Aa] at q
 refine Fj s n q fun ds st1 vs H1 r1 k1 s1 n1 rps q1 => ?_
 exact hr ds vs st1 r1 H1 Q s1 rps (RQ.mono (.refl _ _) q1 fun _ _ p => p.mono k1)
theorem Eu {rho : List Addr} {H : Hp} {d : D} {vs : List V} (r : g.RepL rho H [d] vs) : ∃ v, vs = [v] ∧ g.Rep rho H d v := by
 simp only [RepL] at r
 obtain ⟨v, t, rfl, r1, rfl⟩ := r
 exact ⟨v, rfl, r1⟩
theorem Ie (hf : f ≠ .minB ∧ f ≠ .maxB) (q : RQ g (btD f ds st) ok rho H) : ∃ d, ds = [d] := by
 cases ds with
 | nil => cases f <;> exact q.elim
 | cons d t =>
  cases t with
  | nil => exact ⟨d, rfl⟩
  | cons e u =>
   exfalso
   cases f <;> first | exact hf.1 rfl | exact hf.2 rfl | (cases d <;> exact q.elim)
theorem yi {p : Pos} (hg : Gl X "int") (hm : X.mg "int" = none) (ha : SdL g X (e :: es) es') (he : starEach (e :: es) X.env = (false, eval e X.env) :: starEach es X.env := by rfl) (hpl : (backTo pos (starEach es X.env)).any (·.1) = false := by rfl) :
    Sd g X (.Call (.Name "int" p) (e :: es) [] pos) (.bt .intB es') := Ay (lz Vr hg hm rfl ha (by decide) (by decide) he hpl) fun sg H Q q => by
  refine bts (f := .intB) (fun ds vs st rho H Q s r q => ?_) q
  obtain ⟨d, rfl⟩ := Ie ⟨by decide, by decide⟩ q
  obtain ⟨v, rfl, r1⟩ := Eu r
  cases d with
  | int i => cases ao.mp r1; exact .inl ⟨i, rfl, q _ H rho (.refl _ _) s (ao.mpr rfl)⟩
  | bl i => cases bc.mp r1; exact .inr ⟨i, rfl, q _ H rho (.refl _ _) s (ao.mpr rfl)⟩
  | _ => exact q.elim
theorem Gb {p : Pos} (hK : X.K = g.K) (hg : Gl X "len") (hm : X.mg "len" = none) (ha : SdL g X (e :: es) es') (he : starEach (e :: es) X.env = (false, eval e X.env) :: starEach es X.env := by rfl) (hpl : (backTo pos (starEach es X.env)).any (·.1) = false := by rfl) :
    Sd g X (.Call (.Name "len" p) (e :: es) [] pos) (.bt .lenB es') := Ay (Ht (cz.or Wu Wv) hg hm rfl ha (by decide) (by decide) he hpl) fun sg H Q q => by
  refine bts (f := .lenB) (fun ds vs st rho H Q s r q => ?_) q
  obtain ⟨d, rfl⟩ := Ie ⟨by decide, by decide⟩ q
  obtain ⟨v, rfl, r1⟩ := Eu r
  have seq : ∀ xs, Cn st d = some xs → Al g rho H Q (.int xs.length) st → ∃ p ys, [v] = [V.ref p] ∧ (SqL X.K H p ys ∨ SqT X.K H p ys) ∧ Q (.int ys.length) H := by
    intro xs e q
    obtain ⟨p, ws, rfl, sq, rl⟩ := Js s r1 e
    refine ⟨p, ws, rfl, by rw [hK]; exact sq, ?_⟩
    rw [← rl.length]
    exact q _ H rho (.refl _ _) s (ao.mpr rfl)
  cases d with
  | tup xs => exact .inl (seq xs rfl q)
  | loc n =>
    simp only [btD] at q
    split at q
    · rename_i xs e
      exact .inl (seq xs e q)
    · exact q.elim
  | str z =>
    simp only [btD] at q
    split at q
    · rename_i hz
      cases Bx.mp r1
      exact .inr ⟨z, rfl, hz, (show Al g rho H Q (.int _) st from q) _ H rho (.refl _ _) s (ao.mpr rfl)⟩
    · exact q.elim
  | _ => exact q.elim
theorem Yi {p : Pos} (hK : X.K = g.K) (hg : Gl X "tuple") (hm : X.mg "tuple" = none) (ha : SdL g X (e :: es) es') (he : starEach (e :: es) X.env = (false, eval e X.env) :: starEach es X.env := by rfl) (hpl : (backTo pos (starEach es X.env)).any (·.1) = false := by rfl) :
    Sd g X (.Call (.Name "tuple" p) (e :: es) [] pos) (.bt .tupleB es') := Ay (lz wx hg hm rfl ha (by decide) (by decide) he hpl) fun sg H Q q => by
  refine bts (f := .tupleB) (fun ds vs st rho H Q s r q => ?_) q
  obtain ⟨d, rfl⟩ := Ie ⟨by decide, by decide⟩ q
  obtain ⟨v, rfl, r1⟩ := Eu r
  simp only [btD] at q
  split at q
  · rename_i xs e
    have q : Al g rho H Q (.tup xs) st := q
    obtain ⟨p, ws, rfl, sq, rl⟩ := Js s r1 e
    rw [← hK] at sq
    refine ⟨p, ws, rfl, ?_⟩
    rcases sq with sq | sq
    · refine .inl ⟨sq, fun l hl => ?_⟩
      have e := Fh hl (.tup ws)
      exact q (.ref l) _ rho (Bq.keep e rho) (s.same e) (Cp.mpr ⟨l, ws, rfl, SqT.of Cb, rl.mono (Bq.keep e rho)⟩)
    · exact .inr ⟨sq, q (.ref p) H rho (.refl _ _) s (Cp.mpr ⟨p, ws, rfl, by rw [← hK]; exact sq, rl⟩)⟩
  · exact q.elim
theorem fo {p : Pos} (hK : X.K = g.K) (hg : Gl X "list") (hm : X.mg "list" = none) (ha : SdL g X (e :: es) es') (he : starEach (e :: es) X.env = (false, eval e X.env) :: starEach es X.env := by rfl) (hpl : (backTo pos (starEach es X.env)).any (·.1) = false := by rfl) :
    Sd g X (.Call (.Name "list" p) (e :: es) [] pos) (.bt .listB es') := Ay (lz Ww hg hm rfl ha (by decide) (by decide) he hpl) fun sg H Q q => by
  refine bts (f := .listB) (fun ds vs st rho H Q s r q => ?_) q
  obtain ⟨d, rfl⟩ := Ie ⟨by decide, by decide⟩ q
  obtain ⟨v, rfl, r1⟩ := Eu r
  simp only [btD] at q
  split at q
  · rename_i xs e
    obtain ⟨p, ws, rfl, sq, rl⟩ := Js s r1 e
    exact ⟨p, ws, rfl, by rw [hK]; exact sq, fun l hl => jo s rl hl q⟩
  · exact q.elim
def spD (K : PySem.W.Frag) (cls : CW) (np : Nat) (run : List D → Sto → Res D) : Sp := fun vs H Q Ex => vs.length = np ∧ ∃ rho st ds, StoRep K cls rho st H ∧ RepL K rho H ds vs ∧
 match run ds st with
 | .ok d st' => ∀ v H' rho', Keep K rho H rho' H' → StoRep K cls rho' st' H' → Rep K rho' H' d v → Q v H'
 | .exc k st' => ∀ H' rho', Keep K rho H rho' H' → StoRep K cls rho' st' H' → Ex (.ref (cls k)) none H'
 | .bad => False
theorem Av {k f : Nat} {fa : Addr} {fd : FuncData} {ps : List Str} {x : Str} {p : Pos} {e : Expr} {dv : List D} {dvs : List V} {ds : List Value} {np : Nat}
    (F : FnOk X.prog X.w X.K X.mg X.base (CXd X.prog X.w) k fa fd ps (spD g.K g.cls np (g.call f))) (hr : Room k X.A) (hg : Gl X x) (hm : X.mg x = some (.ref fa)) (hk : PySem.W.keepIn X.K (.ref fa) = true) (hb : Binds X.K fd ps ds) (hd : Vals dvs ds)
    (hdv : ∀ rho H, g.RepL rho H dv dvs) (hx : Passes (CXd X.prog X.w) X g.xk) (hl : ∀ ds st, ds.length ≠ np → g.call f ds st = .bad) (ha : SdL g X (e :: es) es') (hdb : (x == ("__debug__" : Str)) = false := by decide)
    (he : starEach (e :: es) X.env = (false, eval e X.env) :: starEach es X.env := by rfl) (hpl : (backTo pos (starEach es X.env)).any (·.1) = false := by rfl) : Sd g X (.Call (.Name x p) (e :: es) [] pos) (.call f es' dv) :=
  Ay (We F hr hg hm hk hb hd hx ha hdb he hpl) fun sg H Q q => by
    obtain ⟨rho, st, env, s, n, q⟩ := q
    simp only [Aa] at q
    refine Fj s n q fun ds st1 vs H1 r1 k1 s1 n1 rps q1 => ?_
    have rr := rps.append (hdv r1 H1)
    have hlen : (ds ++ dv).length = np := Decidable.byContradiction fun z => by rw [hl _ _ z] at q1; exact q1
    refine ⟨by rw [← rr.length]; exact hlen, r1, st1, ds ++ dv, s1, rr, ?_⟩
    revert q1
    cases g.call f (ds ++ dv) st1 with
    | ok d st' => exact fun q1 v H' rho' k s' r => (show Al g rho H Q d st' from q1) v H' rho' (k1.trans k) s' r
    | exc c st' => exact fun q1 H' rho' k s' => q1 H' rho' k s'
    | bad => exact fun q1 => q1
theorem qh (ha : SdT g X a a') : PW X (.BoolOp .And [a] pos) (tT g a') := Um ha
theorem Gs (ha : SdT g X a a') : PW X (.BoolOp .Or [a] pos) (tT g a') := uo ha
theorem Qh {t t' : TT} {e : Expr} (h : PW X e t) (hi : ∀ sg H Q, t' sg H Q → t sg H Q) : PW X e t' := fun whole pins s sg H Q I q => h whole pins s sg H Q I (hi _ _ _ q)
theorem Mh (ha : SdT g X a a') (hb : PW X (.BoolOp .And (b :: rest) pos) (tT g b')) : PW X (.BoolOp .And (a :: b :: rest) pos) (tT g (.andE a' b')) := Qh (Uo ha hb) fun sg H Q q => by
 obtain ⟨rho, st, env, s, n, q⟩ := q
 simp only [Aj] at q
 refine stepT s n q fun t st1 H1 r1 k1 s1 n1 q1 => ?_
 cases t with
 | true => exact Hy ⟨r1, st1, env, s1, n1, RQ.mono (.refl _ _) q1 fun _ _ p => p.mono k1⟩
 | false => exact Hx ((show dh g rho H Q false st1 from q1) H1 r1 k1 s1)
theorem Fo (ha : SdT g X a a') (hb : PW X (.BoolOp .Or (b :: rest) pos) (tT g b')) : PW X (.BoolOp .Or (a :: b :: rest) pos) (tT g (.orE a' b')) := Qh (Up ha hb) fun sg H Q q => by
 obtain ⟨rho, st, env, s, n, q⟩ := q
 simp only [Aj] at q
 refine stepT s n q fun t st1 H1 r1 k1 s1 n1 q1 => ?_
 cases t with
 | true => exact Hy ((show dh g rho H Q true st1 from q1) H1 r1 k1 s1)
 | false => exact Hx ⟨r1, st1, env, s1, n1, RQ.mono (.refl _ _) q1 fun _ _ p => p.mono k1⟩
theorem Dh (ha : SdT g X a a') : SdT g X (.UnaryOp .Not a pos) (.notE a') := eu (uq ha) fun sg H Q q => by
 obtain ⟨rho, st, env, s, n, q⟩ := q
 simp only [Aj] at q
 refine stepT s n q fun t st1 H1 r1 k1 s1 n1 q1 => ?_
 exact (show dh g rho H Q (!t) st1 from q1) H1 r1 k1 s1
theorem yj (s : g.Sto rho st H) (r : g.Rep rho H d v) (h : truth st d = some k) : Lw g.K v H k := by
 cases d with
 | non => cases Dy.mp r; simp [truth] at h; subst h; rfl
 | bl b => cases bc.mp r; simp [truth] at h; subst h; rfl
 | int i => cases ao.mp r; simp only [truth] at h; cases h; rfl
 | str x =>
  cases Bx.mp r
  simp only [truth] at h
  split at h
  · rename_i z; cases h; exact ⟨z, rfl⟩
  · cases h
 | tup ds =>
  obtain ⟨a, vs, rfl, q, rl⟩ := Cp.mp r
  simp only [truth] at h; cases h
  have hl := rl.length
  exact .inr (.inl ⟨vs, q, by cases ds <;> cases vs <;> simp_all⟩)
 | loc n =>
  simp only [truth] at h
  cases el : af st n with
  | none => rw [el] at h; cases h
  | some ds =>
   rw [el] at h; cases h
   obtain ⟨a, vs, h1, q, rl⟩ := dz s el
   obtain ⟨a2, h2, rfl⟩ := bf.mp r
   rw [h1] at h2; cases h2
   have hl := rl.length
   exact .inl ⟨vs, q, by cases ds <;> cases vs <;> simp_all⟩
theorem Cz (hK : X.K = g.K) (ha : Sd g X a a') (hev : ∀ env st, Aj g.tab g.call a' env st = (Aa g.tab g.call a' env st).bind fun d st => match truth st d with | some b => .ok b st | none => .bad)
    (he : ∀ whole, isTrue a X.env whole = (do let v ← whole; standAt a.pos; holding [v] (truthy v))) : SdT g X a a' := eu (vq ha he) fun sg H Q q => by
  obtain ⟨rho, st, env, s, n, q⟩ := q
  rw [hev] at q
  refine step s n q fun d st1 v H1 r1 k1 s1 n1 rp q1 => ?_
  cases e : truth st1 d with
  | none => rw [e] at q1; exact q1.elim
  | some k =>
    rw [e] at q1
    exact ⟨k, by rw [hK]; exact yj s1 rp e, (show dh g rho H Q k st1 from q1) H1 r1 k1 s1⟩
end DD
namespace DD
open PySem PySem.Spec L2
variable {g : G} {X : Cx} {a b c : Expr} {a' b' c' : E} {pos : Pos} {rest es : List Expr} {es' : Es}
def kb (t T : String) : Option Bool := if ((Value.type t == Value.type T) = true) then some true else if PySem.W.kitMeta T = true then (fastBuiltinMro t).map (·.contains (.type T)) else none
theorem Yj (K : PySem.W.Frag) (t T : String) : PySem.W.kitOne K (.type t) (.type T) = kb t T := rfl
theorem yk (K : PySem.W.Frag) (ht : t ∈ ["NoneType", "bool", "int", "str", "tuple", "list", "dict"]) (hT : T ∈ ["bool", "int", "tuple", "list", "str", "dict"]) : PySem.W.kitOne K (.type t) (.type T) = subB t T := by
 rw [Yj]
 simp only [List.mem_cons, List.mem_nil_iff, or_false] at ht hT
 rcases ht with rfl | rfl | rfl | rfl | rfl | rfl | rfl <;> rcases hT with rfl | rfl | rfl | rfl | rfl | rfl <;> first | rfl | kernel_rfl | decide +kernel
def mi (g : G) (K : PySem.W.Frag) (T : Ty) (u : Value) : List V → Hp → VK → Prop := fun xs H Q => ∃ rho st d x cv t k, xs = [x, cv] ∧ RelV cv u ∧ g.Sto rho st H ∧ g.Rep rho H d x ∧ Bn st d = some t ∧ cg g.tab t T = some k ∧ Q (.bl k) H
theorem Mi (hK : X.K = g.K) (hu : ∀ v w, RelV v u → RelV v w → w = u) (hB : ∀ t k, t ∈ ["NoneType", "bool", "int", "str", "tuple", "list", "dict"] → cg g.tab (.b t) T = some k → PySem.W.kitOne X.K (.type t) u = some k)
    (hO : ∀ n k, g.tab n T = some k → ExcC X.K (g.cls n) ∧ PySem.W.kitOne X.K (.ref (g.cls n)) u = some k) : cz X (.builtin "isinstance") (mi g X.K T u) := by
  intro pins s sg H xs us Q I rv h
  obtain ⟨rho, st, d, x, cv, t, k, rfl, rc, S, r, ht, hs, q⟩ := h
  obtain ⟨u1, u2, rfl, ru1, ru2⟩ := vals2 rv
  obtain rfl := hu cv u2 rc ru2
  have fin : ∀ tk, EP X pins sg Q (.bool k) { s with toks := tk } := fun tk => ⟨.bl k, H, I.tok tk, rfl, q⟩
  cases d with
  | non =>
    cases Dy.mp r; cases ru1; cases ht
    exact PySem.W.kia_one PySem.W.kitx_none I.kIn True.intro (hB _ _ (by simp) hs) (fun z => nomatch z) fin
  | bl y =>
    cases bc.mp r; cases ru1; cases ht
    exact PySem.W.kia_one PySem.W.kitx_bool I.kIn True.intro (hB _ _ (by simp) hs) (fun z => nomatch z) fin
  | int i =>
    cases ao.mp r; obtain ⟨_, rfl⟩ := ru1; cases ht
    exact PySem.W.kia_one PySem.W.kitx_int I.kIn True.intro (hB _ _ (by simp) hs) (fun z => nomatch z) fin
  | str i =>
    cases Bx.mp r; obtain ⟨_, rfl⟩ := ru1; cases ht
    exact PySem.W.kia_one PySem.W.kitx_str I.kIn True.intro (hB _ _ (by simp) hs) (fun z => nomatch z) fin
  | tup ds =>
    obtain ⟨p, vs, rfl, sq, rl⟩ := Cp.mp r
    cases ru1; cases ht
    rw [← hK] at sq
    obtain ⟨its, rvs, ⟨o, ho, hc, n', hd⟩, _⟩ := I.tuple sq
    exact PySem.W.kia_one PySem.W.kitx_tuple I.kIn ⟨o, ho, hc⟩ (hB _ _ (by simp) hs) (fun z => nomatch z) fin
  | loc n =>
    obtain ⟨p, hp, rfl⟩ := bf.mp r
    cases ru1
    simp only [Bn] at ht
    cases ec : st[n]? with
    | none => rw [ec] at ht; cases ht
    | some cl =>
      rw [ec] at ht
      have cr := S.cells n p cl hp ec
      cases cl with
      | lst ds =>
        cases ht
        obtain ⟨vs, hH, _⟩ := cr
        obtain ⟨_, _, n', _, h1⟩ := (show bg X.prog X.w H s.heap p (.lst vs) from I.hok p _ hH)
        exact PySem.W.kia_one PySem.W.kitx_list I.kIn ⟨_, h1, rfl⟩ (hB _ _ (by simp) hs) (fun z => nomatch z) fin
      | frz ds =>
        cases ht
        obtain ⟨vs, hH, _⟩ := cr
        rcases hH with ⟨o, hH⟩ | ⟨o, its, n', hk, hc, _⟩
        · obtain ⟨_, _, _, n', _, h1⟩ := (show bg X.prog X.w H s.heap p (.frz o (.lst vs)) from I.hok p _ hH)
          exact PySem.W.kia_one PySem.W.kitx_list I.kIn ⟨_, h1, rfl⟩ (hB _ _ (by simp) hs) (fun z => nomatch z) fin
        · rw [← hK] at hk
          exact PySem.W.kia_one PySem.W.kitx_list I.kIn ⟨o, I.kIn _ _ hk, hc⟩ (hB _ _ (by simp) hs) (fun z => nomatch z) fin
      | dct kvs =>
        cases ht
        obtain ⟨ws, hH, _⟩ := cr
        obtain ⟨_, _, vs, _, o, es, ep, h1, h2, _⟩ := (show bg X.prog X.w H s.heap p (.dK ws) from I.hok p _ hH)
        exact PySem.W.kia_one PySem.W.kitx_dict I.kIn ⟨o, h1, h2.1⟩ (hB _ _ (by simp) hs) (fun z => nomatch z) fin
      | ins m fs => cases ht
      | dcn kvs => exact cr.elim
      | dcf kvs => exact cr.elim
      | fnc i => exact cr.elim
      | exn m =>
        cases ht
        have hH : H p = some (.ext (Gq p (.ref (g.cls m)))) := cr
        obtain ⟨⟨o, ws, h1, h2, h3⟩, _⟩ := (show bg X.prog X.w H s.heap p (.ext (Gq p (.ref (g.cls m)))) from I.hok p _ hH)
        obtain ⟨x1, x2⟩ := hO m k hs
        exact PySem.W.kia_one (yc x1) I.kIn ⟨o, h1, h2⟩ x2 (fun z => nomatch z) fin
end DD
namespace DD
open PySem PySem.Spec L2
variable {g : G} {X : Cx} {a b c : Expr} {a' b' c' : E} {pos : Pos} {rest es : List Expr} {es' : Es}
theorem mj (hc : RelV cv u) (q : tE g (.isi a' T) sg H Q) : tCB (mi g X.K T u) (ji (tE g a') (ji (tC cv) Ly)) sg H Q := by
 obtain ⟨rho, st, env, s, n, q⟩ := q
 simp only [Aa] at q
 refine step s n q fun d st1 v H1 r1 k1 s1 n1 rp q1 => ?_
 show mi g X.K T u [v, cv] H1 Q
 cases et : Bn st1 d with
 | none => rw [et] at q1; exact q1.elim
 | some t =>
  rw [et] at q1
  simp only [Option.bind_some] at q1
  cases ek : cg g.tab t T with
  | none => rw [ek] at q1; exact q1.elim
  | some k =>
   rw [ek] at q1
   exact ⟨r1, st1, d, v, cv, t, k, rfl, hc, s1, rp, et, ek, (show Al g rho H Q (.bl k) st1 from q1) _ H1 r1 k1 s1 (bc.mpr rfl)⟩
theorem Ew {p p2 : Pos} (hK : X.K = g.K) (hT : T ∈ ["bool", "int", "tuple", "list", "str", "dict"]) (hO : ∀ n, g.tab n (.b T) = none) (hg : Gl X "isinstance") (hm : X.mg "isinstance" = none) (hg2 : Gl X x) (hm2 : X.mg x = none) (hv : bootBuiltins x = some (.type T)) (ha : Sd g X a a')
    (hn : x ≠ "__name__" := by decide) (hd : (x == ("__debug__" : Str)) = false := by decide) (he : starEach [a, .Name x p2] X.env = (false, eval a X.env) :: starEach [.Name x p2] X.env := by rfl) (he2 : starEach [.Name x p2] X.env = (false, eval (.Name x p2) X.env) :: starEach [] X.env := by rfl) (hpl : (backTo pos (starEach [.Name x p2] X.env)).any (·.1) = false := by rfl) :
    Sd g X (.Call (.Name "isinstance" p) [a, .Name x p2] [] pos) (.isi a' (.b T)) := by
  have hc := Mi (X := X) (T := .b T) (u := .type T) hK (fun v w h1 h2 => by cases v <;> first | (cases h1; exact h2) | (obtain ⟨_, z⟩ := h1; cases z) | cases h1) (fun t k ht hs => by rw [yk X.K ht hT]; exact hs) (fun n k h => by rw [hO n] at h; cases h)
  exact Ay (Ht hc hg hm rfl (ff ha (ff (ot (v := .ty T) hg2 hm2 hv rfl hn hd) Hs he2) he) (by decide) (by decide) he hpl) fun sg H Q q => mj (cv := .ty T) rfl q
theorem gd {p p2 : Pos} (hK : X.K = g.K) (hO : ∀ n k, g.tab n (.o m) = some k → ExcC X.K (g.cls n) ∧ PySem.W.kitOne X.K (.ref (g.cls n)) (.ref (g.cls m)) = some k) (hg : Gl X "isinstance") (hm : X.mg "isinstance" = none) (hg2 : Gl X x) (hm2 : X.mg x = some (.ref (g.cls m))) (ha : Sd g X a a')
    (hd : (x == ("__debug__" : Str)) = false := by decide) (he : starEach [a, .Name x p2] X.env = (false, eval a X.env) :: starEach [.Name x p2] X.env := by rfl) (he2 : starEach [.Name x p2] X.env = (false, eval (.Name x p2) X.env) :: starEach [] X.env := by rfl) (hpl : (backTo pos (starEach [.Name x p2] X.env)).any (·.1) = false := by rfl) :
    Sd g X (.Call (.Name "isinstance" p) [a, .Name x p2] [] pos) (.isi a' (.o m)) := by
  have hc := Mi (X := X) (T := .o m) (u := .ref (g.cls m)) hK (fun v w h1 h2 => by cases v <;> first | (cases h1; exact h2) | (obtain ⟨_, z⟩ := h1; cases z) | cases h1) (fun t k ht hs => by cases hs) hO
  exact Ay (Ht hc hg hm rfl (ff ha (ff (Oq (v := .ref (g.cls m)) hg2 hm2 rfl hd) Hs he2) he) (by decide) (by decide) he hpl) fun sg H Q q => mj (cv := .ref (g.cls m)) rfl q
theorem Yk {p p2 : Pos} (hK : X.K = g.K) (hT : T ∉ ["bool", "int", "tuple", "list", "str", "dict"]) (hb : ∀ t, t ∈ ["NoneType", "bool", "int", "str", "tuple", "list", "dict"] → subB t T = none) (hO : ∀ n k, g.tab n (.b T) = some k → ExcC X.K (g.cls n) ∧ PySem.W.kitOne X.K (.ref (g.cls n)) (.type T) = some k) (hg : Gl X "isinstance") (hm : X.mg "isinstance" = none) (hg2 : Gl X x) (hm2 : X.mg x = none) (hv : bootBuiltins x = some (.type T)) (ha : Sd g X a a')
    (hn : x ≠ "__name__" := by decide) (hd : (x == ("__debug__" : Str)) = false := by decide) (he : starEach [a, .Name x p2] X.env = (false, eval a X.env) :: starEach [.Name x p2] X.env := by rfl) (he2 : starEach [.Name x p2] X.env = (false, eval (.Name x p2) X.env) :: starEach [] X.env := by rfl) (hpl : (backTo pos (starEach [.Name x p2] X.env)).any (·.1) = false := by rfl) :
    Sd g X (.Call (.Name "isinstance" p) [a, .Name x p2] [] pos) (.isi a' (.b T)) := by
  have hc := Mi (X := X) (T := .b T) (u := .type T) hK (fun v w h1 h2 => by cases v <;> first | (cases h1; exact h2) | (obtain ⟨_, z⟩ := h1; cases z) | cases h1) (fun t k ht hs => by
    have hs : subB t T = some k := hs
    rw [hb t ht] at hs; cases hs) hO
  exact Ay (Ht hc hg hm rfl (ff ha (ff (ot (v := .ty T) hg2 hm2 hv rfl hn hd) Hs he2) he) (by decide) (by decide) he hpl) fun sg H Q q => mj (cv := .ty T) rfl q
theorem yl : Sd g X (.Dict [] [] pos) .dnew := Ay xh fun sg H Q q => by
 obtain ⟨rho, st, env, s, n, q⟩ := q
 simp only [Aa] at q
 intro p hp
 have q : Al g rho H Q (.loc st.length) (st ++ [.dct []]) := q
 obtain ⟨k2, s2⟩ := s.laid hp (o := .dK []) (c := .dct []) ⟨[], Cb, by simp [Aq]⟩
 exact q (.ref p) _ _ k2 s2 (bf.mpr ⟨p, by rw [← s.len]; simp, rfl⟩)
end DD
namespace DD
open PySem PySem.Spec L2
variable {g : G} {X : Cx} {a b c : Expr} {a' b' c' : E} {pos : Pos} {rest es : List Expr} {es' : Es} {F : Nat}
def Bc (g : G) (rho : List Addr) (H : Hp) (D : Ends) (f : Fl) (st : Sto) : Prop := match f with
 | .next env => ∀ sg H' rho', g.Keep rho H rho' H' → g.Sto rho' st H' → g.Env rho' H' env sg → D.nx sg H'
 | .brk env => ∀ sg H' rho', g.Keep rho H rho' H' → g.Sto rho' st H' → g.Env rho' H' env sg → D.bk sg H'
 | .cont env => ∀ sg H' rho', g.Keep rho H rho' H' → g.Sto rho' st H' → g.Env rho' H' env sg → D.ct sg H'
 | .ret d => ∀ v H' rho', g.Keep rho H rho' H' → g.Sto rho' st H' → g.Rep rho' H' d v → D.rt v H'
theorem Bc.mono {rho rho' : List Addr} {H H' : Hp} {D : Ends} {f : Fl} {st : Sto} (k : g.Keep rho H rho' H') (h : Bc g rho H D f st) : Bc g rho' H' D f st := by
 cases f <;> exact fun x H2 r2 k2 => h x H2 r2 (k.trans k2)
def tS (g : G) (F : Nat) (s : S) : TS := fun D sg H => ∃ rho st env, g.Sto rho st H ∧ g.Env rho H env sg ∧ RQ g (ai g.tab g.call F s env st) (Bc g rho H D) rho H
def tSs (g : G) (F : Nat) (s : Ss) : TS := fun D sg H => ∃ rho st env, g.Sto rho st H ∧ g.Env rho H env sg ∧ RQ g (ag g.tab g.call F s env st) (Bc g rho H D) rho H
def SdS (g : G) (X : Cx) (F : Nat) (st : Stmt) (s : S) : Prop := PS X st (tS g F s)
def Du (g : G) (X : Cx) (F : Nat) (st : List Stmt) (s : Ss) : Prop := PSs X st (tSs g F s)
theorem Dn {t t' : TS} {e : Stmt} (h : PS X e t) (hi : ∀ D sg H, t' D sg H → t D sg H) : PS X e t' := fun pins s sg H D I q => h pins s sg H D I (hi _ _ _ q)
theorem qi (h : PSs X e t) (hi : ∀ D sg H, t' D sg H → t D sg H) : PSs X e t' := fun pins s sg H D I q => h pins s sg H D I (hi _ _ _ q)
theorem Af : Du g X F [] .nil := qi Uv fun D sg H q => by
 obtain ⟨rho, st, env, s, n, q⟩ := q
 exact (show Bc g rho H D (.next env) st from q) sg H rho (.refl _ _) s n
theorem Ad (h : SdS g X F s1 s1') (t : Du g X F r1 r1') : Du g X F (s1 :: r1) (.cons s1' r1') := qi (uw h t) fun D sg H q => by
 obtain ⟨rho, st, env, s, n, q⟩ := q
 refine ⟨rho, st, env, s, n, ?_⟩
 simp only [ag] at q
 revert q
 cases ai g.tab g.call F s1' env st with
 | bad => exact fun q => q
 | exc c st1 => exact fun q => q
 | ok f st1 =>
  simp only [ay]
  cases f with
  | next env1 => exact fun q sg1 H1 rho1 k1 s1 n1 => ⟨rho1, st1, env1, s1, n1, RQ.mono k1 q fun f st p => Bc.mono k1 p⟩
  | ret d => exact fun q => q
  | brk env1 => exact fun q => q
  | cont env1 => exact fun q => q
theorem ax (hN : X.N.Nodup) (hi : X.N[i]? = some x) (hx : Loc X.env.scope x) (he : Sd g X e e') (hs : swapsWith e (some (.Name x pos')) pos.line X.env = pure false := by rfl) (hf : X.fn x = true ∨ X.env.scope.names.lookup x = some .local := by first | exact .inl rfl | exact .inr rfl | assumption) :
    SdS g X F (.Assign [.Name x pos'] e pos) (.set i e') := Dn (vc hN hi hx he hs hf) fun D sg H q => by
  obtain ⟨rho, st, env, s, n, q⟩ := q
  simp only [ai] at q
  refine step s n q fun d st1 v H1 r1 k1 s1 n1 rp q1 => ?_
  split at q1
  · exact (show Bc g rho H D (.next _) st1 from q1) _ H1 r1 k1 s1 (n1.set i rp)
  · exact q1.elim
theorem Bd (he : Sd g X e e') : SdS g X F (.Return (some e) pos) (.ret e') := Dn (uy he) fun D sg H q => by
 obtain ⟨rho, st, env, s, n, q⟩ := q
 simp only [ai] at q
 refine step s n q fun d st1 v H1 r1 k1 s1 n1 rp q1 => ?_
 exact (show Bc g rho H D (.ret d) st1 from q1) v H1 r1 k1 s1 rp
theorem Fp (he : Sd g X e e') (hs : swapsWith e none pos.line X.env = pure false := by rfl) : SdS g X F (.Expr e pos) (.ex e') := Dn (ux he hs) fun D sg H q => by
 obtain ⟨rho, st, env, s, n, q⟩ := q
 simp only [ai] at q
 refine step s n q fun d st1 v H1 r1 k1 s1 n1 rp q1 => ?_
 exact (show Bc g rho H D (.next env) st1 from q1) sg H1 r1 k1 s1 n1
theorem Bz (hc : SdT g X c c') (hx : Du g X F x x') (hy : Du g X F y y') : SdS g X F (.If c x y pos) (.ifS c' x' y') := Dn (uz hc hx hy) fun D sg H q => by
 obtain ⟨rho, st, env, s, n, q⟩ := q
 simp only [ai] at q
 refine stepT s n q fun t st1 H1 r1 k1 s1 n1 q1 => ?_
 cases t with
 | true => exact Hy ⟨r1, st1, env, s1, n1, RQ.mono (.refl _ _) q1 fun _ _ p => p.mono k1⟩
 | false => exact Hx ⟨r1, st1, env, s1, n1, RQ.mono (.refl _ _) q1 fun _ _ p => p.mono k1⟩
theorem ig {x txt : Str} {j : Nat} {np ap cpos : Pos} (hth : Throws X g.xk) (hh : X.A.handled = none) (hg : Gl X x) (hn : PySem.W.nsIn X.K mainGlobals x = some (some (.ref (g.cls C)))) (hm : X.mg x = some (.ref (g.cls C)))
    (hq : PySem.W.excIn X.K (g.cls C) [.type "ValueError", .type "Exception", .type "BaseException", .type "object"] "ValueError.__new__" = true) (hd : (x == ("__debug__" : Str)) = false := by decide) :
    SdS g X F (.Raise (some (.Call (.Name x np) [.Constant (.str txt) j ap] [] cpos)) none pos) (.raiseS C) := Dn (Xt (bmB := []) hth hh hg hn hm hq hd) fun D sg H q => by
  obtain ⟨rho, st, env, s, n, q⟩ := q
  exact q H rho (.refl _ _) s
end DD
namespace DD
open PySem PySem.Spec L2
variable {g : G} {X : Cx} {a b c : Expr} {a' b' c' : E} {pos : Pos} {rest es : List Expr} {es' : Es} {F : Nat}
def gs : List Nat → TGs
 | [] => Ot
 | i :: r => ou (jg i) (gs r)
def tg (K : PySem.W.Frag) (is : List Nat) (one : Bool) : TG := if one then (match is with | [i] => jg i | _ => fun _ _ _ _ => False) else Ou K is.length (gs is)
theorem Qi : ∀ {is : List Nat} {ds : List D} {vs : List V} {env env' : Env} {sg : L2.St}, br is ds env = some env' → g.RepL rho H ds vs → g.Env rho H env sg → (∀ sg', g.Env rho H env' sg' → Q sg' H) → gs is vs sg H Q
 | [], [], vs, env, env', sg, e, r, n, h => by
  simp only [RepL] at r; subst r
  simp only [br] at e; cases e
  exact ⟨rfl, h sg n⟩
 | [], d :: t, vs, env, env', sg, e, r, n, h => by simp [br] at e
 | i :: t, [], vs, env, env', sg, e, r, n, h => by simp [br] at e
 | i :: t, d :: u, vs, env, env', sg, e, r, n, h => by
  simp only [RepL] at r
  obtain ⟨v, w, rfl, r1, r2⟩ := r
  simp only [br] at e
  split at e
  · exact ⟨v, w, rfl, Qi e r2 (n.set i r1) h⟩
  · cases e
theorem jv (e : store is one d env = some env') (r : g.Rep rho H d v) (n : g.Env rho H env sg) (h : ∀ sg', g.Env rho H env' sg' → Q sg' H) : tg g.K is one v sg H Q := by
 unfold store at e
 unfold tg
 cases one with
 | true =>
  rw [if_pos rfl] at e ⊢
  match is, e with
  | [i], e =>
   simp only [br] at e
   split at e
   · cases e; exact h _ (n.set i r)
   · cases e
  | [], e => simp [br] at e
  | i :: j :: t, e => simp [br] at e
 | false =>
  rw [if_neg Bool.false_ne_true] at e ⊢
  cases d with
  | tup ds =>
   obtain ⟨p, vs, rfl, q, rl⟩ := Cp.mp r
   refine ⟨p, vs, rfl, q, ?_, Qi e rl n h⟩
   have : ∀ {is : List Nat} {ds : List D} {env env' : Env}, br is ds env = some env' → is.length = ds.length := by
    intro is
    induction is with
    | nil => intro ds env env' e; cases ds with
     | nil => rfl
     | cons _ _ => simp [br] at e
    | cons i t ih => intro ds env env' e; cases ds with
     | nil => simp [br] at e
     | cons _ _ =>
      simp only [br] at e
      split at e
      · simp [ih e]
      · cases e
   rw [← rl.length, this e]
  | _ => cases e
theorem Ca (hN : X.N.Nodup) (hi : X.N[i]? = some x) (hx : Loc X.env.scope x) (hf : X.fn x = true ∨ X.env.scope.names.lookup x = some .local := by first | exact .inl rfl | exact .inr rfl | assumption) : PG X (.Name x pos) (tg g.K [i] true) := cy hN hi hx hf
theorem qj (he : Sd g X e e') (hg : PG X tgt (tg g.K is false)) (hs : swapsWithSole [tgt] e pos.line X.env = pure false := by rfl) (hw : swappedStores [tgt] e X.env = pure none := by rfl)
    (h1 : (assignEach [tgt] X.env).map (·.2) = [assign tgt X.env] := by rfl) : SdS g X F (.Assign [tgt] e pos) (.unp is e') := Dn (Vb he hg hs hw h1) fun D sg H q => by
  obtain ⟨rho, st, env, s, n, q⟩ := q
  simp only [ai] at q
  refine step s n q fun d st1 v H1 r1 k1 s1 n1 rp q1 => ?_
  split at q1
  · rename_i env' e1
    exact jv e1 rp n1 fun sg' n' => (show Bc g rho H D (.next env') st1 from q1) sg' H1 r1 k1 s1 n'
  · exact q1.elim
theorem Mj {J : It} {xs : List D} {p : Option Nat} {is : List Nat} {one : Bool} {x' : Ss} {r1 : List Addr} {H1 : Hp} {D : Ends} {sg : L2.St} {st1 : Sto} {env : Env}
    (hJ : ∀ rho st H, g.Keep r1 H1 rho H → g.Sto rho st H → stays st p xs = true → J.stop xs.length H ∧ ∀ (i : Nat) (d : DD.D), xs[i]? = some d → J.go i H ∧ ∀ x H', J.yld i H x H' → H' = H ∧ g.Rep rho H d x)
    (s1 : g.Sto r1 st1 H1) (n1 : g.Env r1 H1 env sg) (q1 : RQ g (forLoop xs p (fun d env st => match store is one d env with | some env' => ag g.tab g.call F x' env' st | none => .bad) xs env st1) (Bc g r1 H1 D) r1 H1) :
    ∃ W : Nat → Nat → L2.St → Hp → Prop, (∃ m, W 0 m sg H1) ∧ ∀ i m sg H, W i m sg H →
      (J.stop i H ∧ D.nx sg H) ∨ (J.go i H ∧ ∃ N : L2.St → Hp → Prop, (∀ sg' H', N sg' H' → ∃ m', m' < m ∧ W (i + 1) m' sg' H') ∧ ∀ x H', J.yld i H x H' → tg g.K is one x sg H' fun sg2 H2 => tSs g F x' { D with nx := N, ct := N, bk := D.nx } sg2 H2) := by
  refine ⟨fun i m sg H => m = xs.length - i ∧ i ≤ xs.length ∧ ∃ rho st env, g.Keep r1 H1 rho H ∧ g.Sto rho st H ∧ g.Env rho H env sg ∧ RQ g (forLoop xs p (fun d env st => match store is one d env with | some env' => ag g.tab g.call F x' env' st | none => .bad) (xs.drop i) env st) (Bc g rho H D) rho H, ⟨xs.length, by simp, Nat.zero_le _, r1, st1, env, .refl _ _, s1, n1, q1⟩, ?_⟩
  rintro i m sg H ⟨rfl, hi, rho, st, env, kk, s, n, q⟩
  have hst : stays st p xs = true := by
    cases z : stays st p xs with
    | true => rfl
    | false =>
      exfalso
      cases e : xs.drop i with
      | nil => rw [e] at q; simp only [forLoop, z] at q; exact q
      | cons d t => rw [e] at q; simp only [forLoop, z] at q; exact q
  obtain ⟨h1, h2⟩ := hJ rho st H kk s hst
  by_cases hlt : i < xs.length
  · obtain ⟨hgo, hy⟩ := h2 i xs[i] (List.getElem?_eq_getElem hlt)
    refine .inr ⟨hgo, fun sg H => i + 1 ≤ xs.length ∧ ∃ rho st env, g.Keep r1 H1 rho H ∧ g.Sto rho st H ∧ g.Env rho H env sg ∧ RQ g (forLoop xs p (fun d env st => match store is one d env with | some env' => ag g.tab g.call F x' env' st | none => .bad) (xs.drop (i + 1)) env st) (Bc g rho H D) rho H, fun sg' H' h => ⟨xs.length - (i + 1), by omega, rfl, h.1, h.2⟩, fun x H' y => ?_⟩
    obtain ⟨e2, rx⟩ := hy x H' y
    subst e2
    rw [List.drop_eq_getElem_cons hlt] at q
    simp only [forLoop, hst, if_true] at q
    cases es : store is one xs[i] env with
    | none => rw [es] at q; exact q.elim
    | some env1 =>
      rw [es] at q
      refine jv es rx n fun sg1 n1 => ?_
      refine ⟨rho, st, env1, s, n1, ?_⟩
      revert q
      simp only
      cases ag g.tab g.call F x' env1 st with
      | bad => exact fun q => q
      | exc c st2 => exact fun q => q
      | ok f st2 =>
        simp only [ay]
        cases f with
        | next env2 => exact fun q sg2 H2 r2 k2 s2 n2 => ⟨hlt, r2, st2, env2, kk.trans k2, s2, n2, RQ.mono k2 q fun f st p => Bc.mono k2 p⟩
        | cont env2 => exact fun q sg2 H2 r2 k2 s2 n2 => ⟨hlt, r2, st2, env2, kk.trans k2, s2, n2, RQ.mono k2 q fun f st p => Bc.mono k2 p⟩
        | brk env2 => exact fun q => q
        | ret d => exact fun q => q
  · have e : i = xs.length := by omega
    subst e
    refine .inl ⟨h1, ?_⟩
    rw [List.drop_eq_nil_of_le (Nat.le_refl _)] at q
    simp only [forLoop, hst, if_true] at q
    exact (show Bc g rho H D (.next env) st from q) sg H rho (.refl _ _) s n
def Es.len : Es → Nat
 | .nil => 0
 | .cons _ r => r.len + 1
theorem ml {tab : Nat → Ty → Option Bool} {call : Or} : ∀ {es : Es} {env : Env} {st st' : Sto} {ds : List DD.D}, Ap tab call es env st = .ok ds st' → ds.length = es.len
 | .nil, env, st, st', ds, h => by simp only [Ap] at h; cases h; rfl
 | .cons e r, env, st, st', ds, h => by
  simp only [Ap] at h
  cases e1 : Aa tab call e env st with
  | bad => rw [e1] at h; cases h
  | exc c st1 => rw [e1] at h; cases h
  | ok d st1 =>
   rw [e1] at h
   simp only [ay] at h
   cases e2 : Ap tab call r env st1 with
   | bad => rw [e2] at h; cases h
   | exc c st2 => rw [e2] at h; cases h
   | ok t st2 =>
    rw [e2] at h
    simp only [ay] at h
    cases h
    simp only [List.length_cons, ml e2, Es.len]
theorem Yl {β : Type} {e : Es} {env : Env} {sg : L2.St} {st : Sto} {rho : List Addr} {H : Hp} {k : List DD.D → Sto → Res β} {ok : β → Sto → Prop} {Q : List V → Hp → Prop} (s : g.Sto rho st H) (n : g.Env rho H env sg)
    (h : RQ g ((Ap g.tab g.call e env st).bind k) ok rho H)
    (hk : ∀ d st1 v H1 rho1, d.length = e.len → g.Keep rho H rho1 H1 → g.Sto rho1 st1 H1 → g.Env rho1 H1 env sg → g.RepL rho1 H1 d v → RQ g (k d st1) ok rho1 H1 → Q v H1) : tEs g e sg H Q := by
  refine ⟨rho, st, env, s, n, ?_⟩
  revert h
  cases ee : Ap g.tab g.call e env st with
  | ok d st1 => exact fun h v H1 r1 k1 s1 rp => hk d st1 v H1 r1 (ml ee) k1 s1 (n.mono k1) rp (RQ.mono k1 h fun _ _ x => x)
  | exc c st1 => exact fun h => h
  | bad => exact fun h => h
theorem Qj {ds xs : List DD.D} {e : Expr} (h : Dt ds = some xs) (hl : ds.length = 1) : ∃ j : Int, ds = [.int j] ∧ -(2 ^ 62) ≤ j ∧ j < 2 ^ 62 ∧ xs = Br 0 j.toNat := by
 match ds, hl with
 | [d], _ =>
  cases d with
  | int j =>
   simp only [Dt] at h
   split at h
   · rename_i z; cases h; exact ⟨j, rfl, z.1, z.2, rfl⟩
   · cases h
  | _ => simp [Dt] at h
theorem Ml {pos2 : Pos} {is : List Nat} {tgt e : Expr} {body : List Stmt} {x' : Ss} {e' : E} {p : Pos} (hp : PassesOwn (model X.prog X.w) X.A X.env X.xe) (hc : X.calm = true) (hg : Gl X "range") (hm : X.mg "range" = none) (ha : Sd g X e e') (ht : PG X tgt (tg g.K is true)) (hx : Du g X F body x')
    (he : starEach [e] X.env = [(false, eval e X.env)] := by rfl) (hs : ∀ x, foldedSetIterable (.Call (.Name "range" p) [e] [] pos) X.env x = pure x   := by intro _; rfl) : SdS g X F (.For tgt (.Call (.Name "range" p) [e] [] pos) body [] pos2) (.forR is (.cons e' .nil) x') := Dn (Lr hp hc (Ox hg hm (aa ha Ac he) he) ht hx hs) fun D sg H q => by
  obtain ⟨rho, st, env, s, n, q⟩ := q
  simp only [ai] at q
  refine Yl s n q fun ds st1 vs H1 r1 hl k1 s1 n1 rps q1 => ?_
  split at q1
  · rename_i xs e1
    obtain ⟨j, rfl, j1, j2, rfl⟩ := Qj (e := e) e1 hl
    obtain ⟨v, rfl, rv⟩ := Eu rps
    refine ⟨j, by rw [ao.mp rv], j1, j2, ?_⟩
    refine Mj (J := Itr 0 j.toNat) (p := none) (fun rho st H _ _ _ => ⟨?_, fun i d hd => ?_⟩) s1 n1 (RQ.mono (.refl _ _) q1 fun f st p => Bc.mono k1 p)
    · show j.toNat ≤ _
      simp [Br]
    · have hi : i < j.toNat := by
        have := (List.getElem?_eq_some_iff.mp hd).1
        simpa [Br] using this
      refine ⟨hi, fun x H' y => ⟨y.1, ?_⟩⟩
      have hd' : d = .int (0 + (i : Nat)) := by
        have := (List.getElem?_eq_some_iff.mp hd).2
        simp [Br] at this
        simp [← this]
      rw [hd', ao]
      exact y.2
  · exact q1.elim
theorem ym {is : List Nat} {one : Bool} {tgt e : Expr} {body : List Stmt} {x' : Ss} {e' : E} (hK : X.K = g.K) (hp : PassesOwn (model X.prog X.w) X.A X.env X.xe) (hc : X.calm = true) (ha : Sd g X e e') (ht : PG X tgt (tg g.K is one)) (hx : Du g X F body x')
    (hs : ∀ x, foldedSetIterable e X.env x = pure x := by intro _; rfl) : SdS g X F (.For tgt e body [] pos) (.forS is one false e' x') := Dn (Lr hp hc (Ow ha) ht hx hs) fun D sg H q => by
  obtain ⟨rho, st, env, s, n, q⟩ := q
  simp only [ai] at q
  refine step s n q fun d st1 v H1 r1 k1 s1 n1 rp q1 => ?_
  cases d with
  | loc m =>
    simp only [fh, Bool.false_eq_true, if_false] at q1
    cases el : af st1 m with
    | none => rw [el] at q1; exact q1.elim
    | some ds =>
      rw [el] at q1
      simp only [Option.map_some] at q1
      obtain ⟨p, vs, hr, sq, rl⟩ := dz s1 el
      obtain ⟨p2, hr2, rfl⟩ := bf.mp rp
      rw [hr] at hr2; cases hr2
      refine ⟨p, rfl, ⟨vs, by rw [hK]; exact sq⟩, ?_⟩
      rw [hK]
      refine Mj (J := Itl g.K p) (p := some m) (fun rho st H kk s hst => ?_) s1 n1 (RQ.mono (.refl _ _) q1 fun f st p => Bc.mono k1 p)
      have hst : af st m = some ds := of_decide_eq_true hst
      obtain ⟨p3, ws, hr3, sq3, rl3⟩ := dz s hst
      rw [kk.at hr] at hr3; cases hr3
      refine ⟨⟨ws, sq3, by rw [← rl3.length]; exact Nat.le_refl _⟩, fun i d hd => ?_⟩
      obtain ⟨v, hv, rv⟩ := rl3.get hd
      refine ⟨⟨ws, v, sq3, hv⟩, fun x H' y => ⟨y.1, ?_⟩⟩
      have := y.2 ws sq3
      rw [hv] at this; cases this
      exact rv
  | _ => exact q1.elim
theorem Ym {is : List Nat} {one : Bool} {tgt e : Expr} {body : List Stmt} {x' : Ss} {e' : E} (hK : X.K = g.K) (hp : PassesOwn (model X.prog X.w) X.A X.env X.xe) (hc : X.calm = true) (ha : Sd g X e e') (ht : PG X tgt (tg g.K is one)) (hx : Du g X F body x')
    (hs : ∀ x, foldedSetIterable e X.env x = pure x := by intro _; rfl) : SdS g X F (.For tgt e body [] pos) (.forS is one true e' x') := Dn (Lr hp hc (ox ha) ht hx hs) fun D sg H q => by
  obtain ⟨rho, st, env, s, n, q⟩ := q
  simp only [ai] at q
  refine step s n q fun d st1 v H1 r1 k1 s1 n1 rp q1 => ?_
  cases d with
  | tup ds =>
    simp only [fh, if_true] at q1
    obtain ⟨p, vs, rfl, sq, rl⟩ := Cp.mp rp
    refine ⟨p, rfl, ⟨vs, by rw [hK]; exact sq⟩, ?_⟩
    rw [hK]
    refine Mj (J := Itt g.K p) (p := none) (fun rho st H kk s hst => ?_) s1 n1 (RQ.mono (.refl _ _) q1 fun f st p => Bc.mono k1 p)
    have sq3 := kk.tup p vs sq
    have rl3 := rl.mono kk
    refine ⟨⟨vs, sq3, by rw [← rl3.length]; exact Nat.le_refl _⟩, fun i d hd => ?_⟩
    obtain ⟨v, hv, rv⟩ := rl3.get hd
    refine ⟨⟨vs, v, sq3, hv⟩, fun x H' y => ⟨y.1, ?_⟩⟩
    have := y.2 vs sq3
    rw [hv] at this; cases this
    exact rv
  | _ => simp [fh] at q1; exact q1.elim
theorem yn {apos cpos : Pos} (hK : X.K = g.K) (ho : Sd g X o o') (hv : Sd g X v v') (hbase : attributeBase o "append" X.env (eval o X.env) = eval o X.env := by rfl)
    (hfew : ((backTo cpos (starEach [v] X.env)).all (fun x => !x.1) && (backToKw cpos (keywordEach [] X.env)).all (fun x => x.1.isSome) && decide ([v].length + ([] : List Keyword).length + (if ([] : List Keyword).isEmpty then 0 else 1) < 30)) = true := by rfl)
    (hline : (apos.endLine == cpos.line) = true := by rfl) (hs : starEach [v] X.env = (false, eval v X.env) :: starEach [] X.env := by rfl) : Sd g X (.Call (.Attribute o "append" apos) [v] [] cpos) (.mt .append o' (.cons v' .nil)) :=
  Ay (Pt PySem.F.plainAttrs_list PySem.F.slot_list_append PySem.F.type_list_append Pu ho (aa hv Ac hs) hbase hfew hline hs rfl) fun sg H Q q => by
    obtain ⟨rho, st, env, s, n, q⟩ := q
    simp only [Aa] at q
    refine step s n q fun d st1 x H1 r1 k1 s1 n1 rp q1 => ?_
    split at q1
    · rename_i hl
      have hl : ia st1 d = true := hl
      cases d with
      | loc m =>
        have hl : ∃ xs, st1[m]? = some (.lst xs) := by
          simp only [ia] at hl
          split at hl
          · rename_i xs e; exact ⟨xs, e⟩
          · cases hl
        obtain ⟨xs, el⟩ := hl
        obtain ⟨p, vs, hr, hH, rl⟩ := fm s1 el
        obtain ⟨p2, hr2, rfl⟩ := bf.mp rp
        rw [hr] at hr2; cases hr2
        refine ⟨.inl ⟨rfl, vs, SqL.of hH⟩, ?_⟩
        refine Fj s1 n1 q1 fun ds st2 ws H2 r2 k2 s2 n2 rps q2 => ?_
        match ds, q2 with
        | [y], q2 =>
          obtain ⟨w, rfl, rw1⟩ := Eu rps
          simp only [mtD] at q2
          split at q2
          · rename_i zs ez
            split at q2
            · rename_i hz
              obtain ⟨p3, us, hr3, hH3, rl3⟩ := fm s2 ez
              rw [k2.at hr] at hr3; cases hr3
              have hrep : g.RepL r2 H2 (zs ++ [y]) (us ++ [w]) := rl3.append (by simp only [RepL]; exact ⟨w, [], rfl, rw1, rfl⟩)
              obtain ⟨k3, s3⟩ := s2.wrote (k2.at hr) ez hH3 hrep
              refine ⟨p, us, w, rfl, rfl, hH3, by rw [← rl3.length]; exact hz, ?_⟩
              exact (show Al g rho H Q .non _ from q2) _ _ r2 ((k1.trans k2).trans k3) s3 (Dy.mpr rfl)
            · exact q2.elim
          · exact q2.elim
        | [], q2 => exact q2.elim
        | _ :: _ :: _, q2 => exact q2.elim
      | _ => cases hl
    · exact q1.elim
end DD
namespace DD
open PySem PySem.Spec L2
open PyProof.Rows hiding St
variable {g : G} {X : Cx} {a b c : Expr} {a' b' c' : E} {pos : Pos} {rest es : List Expr} {es' : Es} {F : Nat}
abbrev G.with (g : G) (E : XK) : G := { g with xk := E }
theorem Yn (h : n = m) : g.Env rho H (List.replicate n none) (List.replicate m none) := ⟨by simp [h], fun i d e => by
 rw [List.getElem?_replicate] at e
 split at e <;> cases e⟩
theorem yo (h : g.Env rho H env sg) (i : Nat) : g.Env rho H (env.set i none) (sg.set i none) := by
 refine ⟨by rw [List.length_set, List.length_set]; exact h.len, fun j d e => ?_⟩
 by_cases hj : i = j
 · subst hj
   rw [List.getElem?_set] at e
   simp at e
 · rw [List.getElem?_set_ne hj] at e ⊢
   exact h.val j d e
theorem Yo {body suite : List Stmt} {b₀ : Stmt} {x n : Str} {np hp : Pos} {i C : Nat} {b' h' : Ss} (hfn : ∀ y, X.fn y = true) (hstk : X.stack = X.env :: X.outer) (hfr : X.env.frame = some X.env.locals) (hex : X.ex = [])
    (hN : X.N.Nodup) (hi : X.N[i]? = some n) (hl : X.env.scope.names.lookup n = some .local) (hg : Gl X x) (hm : X.mg x = some (.ref (g.cls C))) (hx : ∀ k, g.tab k (.o C) = some true → PySem.W.exmOne X.K (.ref (g.cls k)) (.ref (g.cls C)) = some true)
    (hb : ∀ (pn : List (Addr × Obj)) (E0 : XK) (xe0 : Value → Shared → Prop), PassesOwn (model X.prog X.w) X.A X.env xe0 → Passes (CXd X.prog X.w) (Cx.tr X pn xe0) E0 → Du (g.with E0) (Cx.tr X pn xe0) F body b')
    (hs : ∀ a, Du (g.with fun _ _ _ => False) (Cx.hd X a) F (b₀ :: suite) h') (hd : (x == ("__debug__" : Str)) = false := by decide) :
    SdS g X F (.Try body [.ExceptHandler (some (.Name x np)) (some n) (b₀ :: suite) hp] [] [] pos) (.tryS b' C i h') :=
  Dn (xy (Cx' := g.cls C) (tb := fun E0 => tSs (g.with E0) F b') (ts := tSs (g.with fun _ _ _ => False) F h') hfn hstk hfr hex hN hi hl hg hm hb hs hd) fun D sg H q hsg => by
    obtain ⟨rho, st, env, s, n, q⟩ := q
    simp only [ai] at q
    have hlen : env.length = X.N.length := n.len.trans hsg
    refine ⟨fun cv _ H' => ∃ k st' rho', cv = .ref (g.cls k) ∧ ag g.tab g.call F b' env st = .exc k st' ∧ g.Keep rho H rho' H' ∧ g.Sto rho' st' H', fun C' H' hE => ?_, rho, st, env, s, n, ?_⟩
    · obtain ⟨k, st', rho', e1, e2, kk, ss⟩ := hE
      cases e1
      rw [e2] at q
      simp only at q
      split at q
      · rename_i ht
        refine ⟨hx k ht, fun a ha => ?_⟩
        split at q
        · rename_i hi'
          obtain ⟨k2, s2⟩ := ss.laid ha (o := .ext (Gq a (.ref (g.cls k)))) (c := .exn k) Cb
          refine ⟨rho' ++ [a], st' ++ [.exn k], blank env i (.loc st'.length), s2, ?_, ?_⟩
          · unfold blank
            exact (Yn hlen).set i (bf.mpr ⟨a, by rw [← ss.len]; simp, rfl⟩)
          · revert q
            cases ag g.tab g.call F h' (blank env i (.loc st'.length)) (st' ++ [.exn k]) with
            | bad => exact fun q => q
            | exc c st2 => exact fun q => q.elim
            | ok f st2 =>
              cases f with
              | next env2 => exact fun q sg2 H2 r2 k3 s3 n3 => (show Bc g rho H D (.next (env2.set i none)) st2 from q) _ H2 r2 ((kk.trans k2).trans k3) s3 (yo n3 i)
              | ret d => exact fun q v H2 r2 k3 s3 r3 => (show Bc g rho H D (.ret d) st2 from q) v H2 r2 ((kk.trans k2).trans k3) s3 r3
              | brk env2 => exact fun q => q.elim
              | cont env2 => exact fun q => q.elim
        · exact q.elim
      · exact q.elim
    · revert q
      cases ee : ag g.tab g.call F b' env st with
      | bad => exact fun q => q
      | ok f st1 => exact fun q => q
      | exc k st1 => exact fun q H' rho' kk ss => ⟨k, st1, rho', rfl, rfl, kk, ss⟩
end DD
namespace DD
open PySem PySem.Spec L2
open PyProof.Rows hiding St
structure FunD (K : PySem.W.Frag) (x qual : Str) (st : Stmt) (f : Addr) (fd : FuncData) : Prop where
 ex : ∃ (oc : Value) (od : Option Addr) (dV kV doc pm : Value) (an : Option Addr) (cdv ct : Value) (osl : Array (Option Value)),
  fd = PySem.W.fnOf x qual (aj st) (Ai st) (ae st) dV kV doc pm an cdv ct ∧ K.lookup f = some ⟨oc, od, .func fd, osl⟩ ∧ PySem.W.codeIn K cdv qual = true
 kp : PySem.W.keepIn K (.ref f) = true
theorem bo {K : PySem.W.Frag} {x qual : Str} {st : Stmt} {f : Addr} {oc : Value} {od an : Option Addr} {osl : Array (Option Value)} {dV kV doc pm cdv ct : Value} (l : K.lookup f = some ⟨oc, od, .func (PySem.W.fnOf x qual (aj st) (Ai st) (ae st) dV kV doc pm an cdv ct), osl⟩)
    (c : PySem.W.codeIn K cdv qual = true) (k : PySem.W.keepIn K (.ref f) = true) : FunD K x qual st f (PySem.W.fnOf x qual (aj st) (Ai st) (ae st) dV kV doc pm an cdv ct) := ⟨⟨oc, od, dV, kV, doc, pm, an, cdv, ct, osl, rfl, l, c⟩, k⟩
section
variable {P : Program} {w : World} {K : PySem.W.Frag} {mg : Str → Option Value} {base : Heap} {cls : CW} {tab : Nat → Ty → Option Bool} {fns : List Fn} {FF : Nat}
abbrev cxD (P : Program) (w : World) (K : PySem.W.Frag) (mg : Str → Option Value) (base : Heap) (N : List Str) (qual : Str) (st : Stmt) (f : Addr) (cdv : Value) (A : Around) (outer : List PySem.Env) (s : Shared) (H : Hp) (E : XK) : Cx := Ds (CXd P w) P w K mg base N qual (ae st) f cdv A outer s H E
theorem yp : ∀ {ds : List D} {vs : List V}, RepL K rho H ds vs → ∀ (i : Nat) (d : D), (ds.map some)[i]? = some (some d) → ∃ v, (vs.map some)[i]? = some (some v) ∧ Rep K rho H d v := fun {ds vs} r i d e => by
 rw [List.getElem?_map] at e
 cases z : ds[i]? with
 | none => rw [z] at e; cases e
 | some y =>
  rw [z] at e; cases e
  obtain ⟨v, h1, h2⟩ := r.get z
  exact ⟨v, by rw [List.getElem?_map, h1]; rfl, h2⟩
theorem Bo {x qual : Str} {st : Stmt} {f : Addr} {fd : FuncData} {N ps : List Str} {m n fi : Nat} {body' : Ss} (F : FunD K x qual st f fd) (S : FnScope N ps (ae st)) (hf : fns[fi]? = some ⟨ps.length, N.length, body'⟩)
    (hb : ∀ (cdv : Value) (A : Around) (outer : List PySem.Env) (s : Shared) (H : Hp) (E : XK), Room m (A.deeper (envOfC qual (ae st) s.heap.objs.size f cdv)) → Du ⟨K, cls, tab, Cg tab fns FF n, E⟩ (cxD P w K mg base N qual st f cdv A outer s H E) FF (Ai st) body') :
    FnOk P w K mg base (CXd P w) (m + 1) f fd ps (spD K cls ps.length (Cg tab fns FF (n + 1) fi)) := by
  obtain ⟨oc, od, dV, kV, doc, pm, an, cdv, ct, osl, rfl, lk, hcd⟩ := F.ex
  refine Ji lk hcd S (fun vs H Q E h => h.1) fun A outer s H vs Q E hr hsp => ?_
  obtain ⟨hl, rho, st1, ds, s1, rl, q⟩ := hsp
  refine ⟨_, hb cdv A outer s H E hr, ?_⟩
  have hdl := rl.length
  have hpn : ps.length ≤ N.length := by have := congrArg List.length S.pre; rw [List.length_take] at this; omega
  have e0 : Cg tab fns FF (n + 1) fi ds st1 = fin (ag tab (Cg tab fns FF n) FF body' (ds.map some ++ List.replicate (N.length - ps.length) none) st1) := by
    show (match fns[fi]? with
      | some fn => if ds.length = fn.np ∧ fn.np ≤ fn.nl then fin (ag tab (Cg tab fns FF n) FF fn.body (ds.map some ++ List.replicate (fn.nl - fn.np) none) st1) else .bad
      | none => .bad) = _
    rw [hf]
    simp only
    rw [if_pos ⟨by omega, hpn⟩]
  rw [e0] at q
  refine ⟨rho, st1, ds.map some ++ List.replicate (N.length - ps.length) none, s1, ⟨?_, fun i d e => ?_⟩, ?_⟩
  · unfold L2.start
    simp [hdl, hl]
  · unfold L2.start
    by_cases hi : i < ds.length
    · rw [List.getElem?_append_left (by simpa using hi)] at e
      obtain ⟨v, h1, h2⟩ := yp rl i d e
      exact ⟨v, by rw [List.getElem?_append_left (by simp; omega)]; exact h1, h2⟩
    · rw [List.getElem?_append_right (by simpa using hi), List.getElem?_replicate] at e
      split at e <;> cases e
  · revert q
    unfold fin
    cases ag tab (Cg tab fns FF n) FF body' (ds.map some ++ List.replicate (N.length - ps.length) none) st1 with
    | bad => exact fun q => q
    | exc c st2 => exact fun q => q
    | ok f st2 =>
      simp only [ay]
      cases f with
      | next env2 => exact fun q sg H' rho' k s' n' => q _ H' rho' k s' (by simp [Rep])
      | ret d => exact fun q => q
      | brk env2 => exact fun q => q.elim
      | cont env2 => exact fun q => q.elim
theorem bp : FnOk P w K mg base (CXd P w) 0 f fd ps (spD K cls ps.length (Cg tab fns FF 0 fi)) := by
 refine ⟨fun vs H Q E h => h.1, fun A outer s H args us vs Q E _ _ _ _ h => ?_⟩
 obtain ⟨_, rho, st1, ds, s1, rl, q⟩ := h
 exact q.elim
theorem au (hf : fns[fi]? = some ⟨np, nl, body'⟩) : ∀ ds st, ds.length ≠ np → Cg tab fns FF n fi ds st = .bad := fun ds st h => by
 cases n with
 | zero => rfl
 | succ n =>
  show (match fns[fi]? with
   | some fn => if ds.length = fn.np ∧ fn.np ≤ fn.nl then fin (ag tab (Cg tab fns FF n) FF fn.body (ds.map some ++ List.replicate (fn.nl - fn.np) none) st) else .bad
   | none => .bad) = _
  rw [hf]
  simp only
  rw [if_neg (fun z => h z.1)]
end
end DD
namespace DD
open PySem PySem.Spec L2
variable {g : G} {X : Cx} {a b c : Expr} {a' b' c' : E} {pos : Pos} {rest es : List Expr} {es' : Es} {F : Nat}
def Ey : Cm → CmpOp
 | .eq => .Eq | .ne => .NotEq | .lt => .Lt | .le => .LtE | .gt => .Gt | .ge => .GtE | .isN => .Is | .notN => .IsNot | .inL => .In | .notIn => .NotIn
def rCm (g : G) (c : Cm) : R2 := fun x y H Q => ∃ rho st a b, g.Sto rho st H ∧ g.Rep rho H a x ∧ g.Rep rho H b y ∧ RQ g (cmD c a b st) (Al g rho H Q) rho H
theorem qk (r : g.Rep rho H d v) : decide (v = V.non) = decide (d = D.non) := by
 cases d with
 | non => cases Dy.mp r; rfl
 | bl b => cases bc.mp r; simp
 | int b => cases ao.mp r; simp
 | str b => cases Bx.mp r; simp
 | tup ds => obtain ⟨_, _, rfl, _⟩ := Cp.mp r; simp
 | loc n => obtain ⟨_, _, rfl⟩ := bf.mp r; simp
theorem Jv (hK : X.K = g.K) (hw : g.cls.w = X.w) (hu : X.A.units + 64 < cLine) (c : Cm) : OpR X (compareOp (Ey c)) (rCm g c) := by
 rintro pins s sg H x y v u Q I rx ry ⟨rho, st, a, b, S, r1, r2, q⟩
 have onInts : ∀ {op : CmpOp} {r : Int → Int → Bool} (ho : OpR X (compareOp op) (rI0 fun i j => .bl (r i j))), (∀ st, cmD c a b st = match a, b with | .int i, .int j => .ok (.bl (r i j)) st | _, _ => .bad) → wpAny (model X.prog X.w) X.A (compareOp op v u) (EP X pins sg Q) X.xe s := by
  intro op r ho hk
  refine ho pins s sg H x y v u Q I rx ry ?_
  rw [hk] at q
  cases a with
  | int i =>
   cases b with
   | int j => exact ⟨i, j, ao.mp r1, ao.mp r2, q _ H rho (.refl _ _) S (bc.mpr rfl)⟩
   | _ => exact q.elim
  | _ => exact q.elim
 cases c with
 | eq =>
  refine mf hK hu pins s sg H x y v u Q I rx ry ?_
  simp only [cmD] at q
  cases e : eqV st a b with
  | none => rw [e] at q; exact q.elim
  | some z =>
   rw [e] at q
   obtain ⟨p1, p2, h1, h2, rfl⟩ := Jr e
   exact ⟨rho, st, a, b, p1, p2, S, r1, r2, h1, h2, (show Al g rho H Q (.bl _) st from q) _ H rho (.refl _ _) S (bc.mpr rfl)⟩
 | ne =>
  refine qe hK hu pins s sg H x y v u Q I rx ry ?_
  simp only [cmD] at q
  cases e : eqV st a b with
  | none => rw [e] at q; exact q.elim
  | some z =>
   rw [e] at q
   obtain ⟨p1, p2, h1, h2, rfl⟩ := Jr e
   exact ⟨rho, st, a, b, p1, p2, S, r1, r2, h1, h2, (show Al g rho H Q (.bl _) st from q) _ H rho (.refl _ _) S (bc.mpr rfl)⟩
 | lt => exact onInts oz (fun st => by cases a <;> cases b <;> rfl)
 | le => exact onInts Vk (fun st => by cases a <;> cases b <;> rfl)
 | gt => exact onInts Oz (fun st => by cases a <;> cases b <;> rfl)
 | ge => exact onInts Vl (fun st => by cases a <;> cases b <;> rfl)
 | isN =>
  refine Vm pins s sg H x y v u Q I rx ry ?_
  simp only [cmD] at q
  cases b with
  | non => exact ⟨Dy.mp r2, by rw [qk r1]; exact (show Al g rho H Q (.bl _) st from q) _ H rho (.refl _ _) S (bc.mpr rfl)⟩
  | _ => exact q.elim
 | notN =>
  refine vn pins s sg H x y v u Q I rx ry ?_
  simp only [cmD] at q
  cases b with
  | non => exact ⟨Dy.mp r2, by rw [qk r1]; exact (show Al g rho H Q (.bl _) st from q) _ H rho (.refl _ _) S (bc.mpr rfl)⟩
  | _ => exact q.elim
 | inL =>
  simp only [cmD] at q
  cases e : inD st a b with
  | none => rw [e] at q; exact q.elim
  | some z => rw [e] at q; exact (Ju hK hw hu I S r1 r2 rx ry e).1 ((show Al g rho H Q (.bl _) st from q) _ H rho (.refl _ _) S (bc.mpr rfl))
 | notIn =>
  simp only [cmD] at q
  cases e : inD st a b with
  | none => rw [e] at q; exact q.elim
  | some z => rw [e] at q; exact (Ju hK hw hu I S r1 r2 rx ry e).2 ((show Al g rho H Q (.bl _) st from q) _ H rho (.refl _ _) S (bc.mpr rfl))
theorem Qk {c1 c2 : Cm} {sg : L2.St} {H : Hp} {Q : VK} (q : tE g (.chn c1 c2 a' b' c') sg H Q) : Lu (rCm g c1) (rCm g c2) (tE g a') (tE g b') (tE g c') sg H Q := by
 obtain ⟨rho, st, env, s, n, q⟩ := q
 simp only [Aa] at q
 refine step s n q fun x st1 u H1 r1 k1 s1 n1 rx q1 => ?_
 refine step s1 n1 q1 fun y st2 v H2 r2 k2 s2 n2 ry q2 => ?_
 refine ⟨r2, st2, x, y, s2, rx.mono k2, ry, ?_⟩
 revert q2
 cases e : cmD c1 x y st2 with
 | bad => exact fun q => q
 | exc cc st3 => exact fun q => q
 | ok d st3 =>
  obtain ⟨z, rfl⟩ := js e
  simp only [ay]
  intro q2 w H3 r3 k3 s3 rw3
  refine ⟨z, bc.mp rw3, ?_⟩
  cases z with
  | false => exact Hx ((show Al g rho H Q (.bl false) st3 from q2) _ H3 r3 ((k1.trans k2).trans k3) s3 (bc.mpr rfl))
  | true =>
   refine Hy (step s3 (n2.mono k3) (RQ.mono k3 q2 fun _ _ p => p) fun t st4 w4 H4 r4 k4 s4 n4 rt q4 => ?_)
   exact ⟨r4, st4, y, t, s4, (ry.mono k3).mono k4, rt, RQ.mono (.refl _ _) q4 fun _ _ p => p.mono (((k1.trans k2).trans k3).trans k4)⟩
theorem Yp (q : tT g (.chn c1 c2 a' b' c') sg H Q) : tE g (.chn c1 c2 a' b' c') sg H (fun x H' => ∃ z, x = .bl z ∧ Q z H') := by
 obtain ⟨rho, st, env, s, n, q⟩ := q
 refine ⟨rho, st, env, s, n, ?_⟩
 simp only [Aj] at q
 simp only [Aa]
 revert q
 cases Aa g.tab g.call a' env st with
 | bad => exact fun q => q
 | exc c st1 => exact fun q => q
 | ok x st1 =>
  simp only [ay]
  cases Aa g.tab g.call b' env st1 with
  | bad => exact fun q => q
  | exc c st2 => exact fun q => q
  | ok y st2 =>
   simp only [ay]
   cases e : cmD c1 x y st2 with
   | bad => exact fun q => q
   | exc c st3 => exact fun q => q
   | ok d st3 =>
    obtain ⟨z, rfl⟩ := js e
    simp only [ay]
    cases z with
    | false =>
     intro q v H' rho' k1 s1 r1
     exact ⟨false, bc.mp r1, (show dh g rho H Q false st3 from q) H' rho' k1 s1⟩
    | true =>
     simp only
     cases Aa g.tab g.call c' env st3 with
     | bad => exact fun q => q
     | exc c st4 => exact fun q => q
     | ok t st4 =>
      simp only [ay]
      cases e2 : cmD c2 y t st4 with
      | bad => exact fun q => q
      | exc c st5 => exact fun q => q
      | ok d st5 =>
       obtain ⟨z, rfl⟩ := js e2
       simp only [ay]
       intro q v H' rho' k1 s1 r1
       exact ⟨z, bc.mp r1, (show dh g rho H Q z st5 from q) H' rho' k1 s1⟩
theorem ql (c1 c2 : Cm) (hK : X.K = g.K) (hw : g.cls.w = X.w) (hu : X.A.units + 64 < cLine) (ha : Sd g X a a') (hb : Sd g X b b') (hc : Sd g X c c') (hm : lastMarks [Ey c1, Ey c2] [b, c] = false := by with_unfolding_all rfl) : Sd g X (.Compare a [Ey c1, Ey c2] [b, c] pos) (.chn c1 c2 a' b' c') :=
 Ay (vo (Jv hK hw hu c1) (Jv hK hw hu c2) ha hb hc hm) fun sg H Q q => Qk q
theorem Yq (c1 c2 : Cm) (hK : X.K = g.K) (hw : g.cls.w = X.w) (hu : X.A.units + 64 < cLine) (ha : Sd g X a a') (hb : Sd g X b b') (hc : Sd g X c c') (hm : lastMarks [Ey c1, Ey c2] [b, c] = false := by with_unfolding_all rfl) : SdT g X (.Compare a [Ey c1, Ey c2] [b, c] pos) (.chn c1 c2 a' b' c') :=
 eu (Vo (Jv hK hw hu c1) (Jv hK hw hu c2) ha hb hc hm) fun sg H Q q => Qk (Yp q)
end DD
namespace DD
open PySem PySem.Spec L2
variable {g : G} {X : Cx} {a b c : Expr} {a' b' c' : E} {pos : Pos} {rest es : List Expr} {es' : Es} {F : Nat}
theorem RepL.drop : ∀ {ds : List D} {vs : List V} (n : Nat), g.RepL rho H ds vs → g.RepL rho H (ds.drop n) (vs.drop n)
 | ds, vs, 0, r => by simpa using r
 | [], vs, n + 1, r => by simp only [DD.RepL] at r; subst r; simp [DD.RepL]
 | d :: t, vs, n + 1, r => by
  simp only [DD.RepL] at r
  obtain ⟨v, w, rfl, _, r2⟩ := r
  simpa using RepL.drop n r2
theorem RepL.take : ∀ {ds : List D} {vs : List V} (n : Nat), g.RepL rho H ds vs → g.RepL rho H (ds.take n) (vs.take n)
 | ds, vs, 0, r => by simp [DD.RepL]
 | [], vs, n + 1, r => by simp only [DD.RepL] at r; subst r; simp [DD.RepL]
 | d :: t, vs, n + 1, r => by
  simp only [DD.RepL] at r
  obtain ⟨v, w, rfl, r1, r2⟩ := r
  simp only [List.take_succ_cons, DD.RepL]
  exact ⟨v, _, rfl, r1, RepL.take n r2⟩
theorem RepL.cut (r : g.RepL rho H ds vs) (lo hi : Option Int) : g.RepL rho H (cutD ds lo hi) (Dm vs lo hi) := by
 unfold cutD Dm
 rw [r.length]
 exact RepL.take _ (RepL.drop _ r)
def Ql (K : PySem.W.Frag) : V → Option Int → Option Int → Hp → VK → Prop := fun x lo hi H Q => ∃ a xs, x = .ref a ∧ SqT K H a xs ∧ HT.sIx xs.length 0 lo = 0 ∧ HT.sIx xs.length xs.length hi = xs.length ∧ Q x H
section
open PyProof.Rows hiding St RelV
open PySem.SeqAt
open PySem.MeetsSeq PySem.MeetsSeq2 PySem.MeetsSeq3
theorem yr {prog : Program} {w : World} {A : Around} {E : Value → Shared → Prop} {s : Shared} {t sl : Addr} {items : Array Value} {vl vu : Value} {lo hi : Option Int} {Q : Value → Shared → Prop} (ht : IsTup s.heap t items) (hs : s.heap.IsSliceOf sl vl vu .none) (pl : IsPart vl lo) (pu : IsPart vu hi)
    (h1 : HT.sIx items.size 0 lo = 0) (h2 : HT.sIx items.size items.size hi = items.size) (h : Q (.ref t) s) : wpAny (model prog w) A (getItem (.ref t) (.ref sl)) Q E s := by
  obtain ⟨os, hos, hcs, hds⟩ := id hs
  have hTs : s.TypeIs (.ref sl) "slice" := ⟨os, hos, hcs⟩
  unfold getItem
  try with_reducible refine wpAny_holding ?_
  first | refine wpAny_bind (wpAny_pure ?_) | skip
  refine wpAny_bind (wpAny_sequenceKey ht.typeIs (by decide) ?_)
  refine wpAny_bind (wpAny_callSpecial?_slot (name := Str.ofString "__getitem__") ht.typeIs PyProof.Rows.slot_tuple_getitem
    (wpAny_call_entry PyProof.Rows.slot_tuple_getitem ht.typeIs entry_tuple_getitem ?_ (args_tuple_getitem _ _)))
  show wpAny _ _ (Builtin.Tuple.tupleItemsOf (.ref t) >>= _) _ _ s
  refine wpAny_bind (tupleItemsOf_ ht ?_)
  refine wpAny_bind (wpAny_typeOf hTs ?_)
  rw [if_pos (by decide)]
  refine wpAny_bind (HT.pj hs pl pu ?_)
  show wpAny _ _ (if (((HT.sIx items.size 0 lo : Nat) : Int) == 0 && (1 : Int) == 1 && (HT.sIx items.size items.size hi - HT.sIx items.size 0 lo) == items.size) = true then _ else _) _ _ s
  rw [if_pos (by rw [h1, h2]; simp)]
  refine wpAny_bind (m := Builtin.Tuple.tupleIsExact (.ref t)) ?_
  unfold Builtin.Tuple.tupleIsExact
  refine wpAny_bind (wpAny_typeOf ht.typeIs (wpAny_pure ?_))
  rw [if_pos (by decide)]
  exact wpAny_bind (wpAny_rule (wpAny_pure ⟨_, rfl, wpAny_pure h⟩))
end
theorem Yr : SlR X (Ql X.K) := by
 intro pins s sg H x v vl vu lo hi sl Q I rx hs pl pu h
 obtain ⟨a, xs, rfl, hx, h1, h2, q⟩ := h
 cases rx
 obtain ⟨its, r, ht, hz⟩ := I.tuple hx
 have hlen : its.toArray.size = xs.length := by rw [List.size_toArray]; exact r.length.symm
 exact ⟨"tuple", _, PyProof.Rows.slot_tuple_getitem.lookup, ht.typeIs, yr ht hs pl pu (by rw [hlen]; exact h1) (by rw [hlen]; exact h2) ⟨.ref a, H, I, rfl, q⟩⟩
def jk (K : PySem.W.Frag) : V → Option Int → Option Int → Hp → VK → Prop := fun x lo hi H Q => ∃ a xs, x = .ref a ∧ SqL K H a xs ∧ ∀ p, H p = none → Q (.ref p) (upd H p (.lst (Dm xs lo hi)))
theorem Ys (its : List Value) (lo hi : Option Int) : slicePick its.toArray lo hi none = ((its.drop (HT.sIx its.length 0 lo)).take (HT.sIx its.length its.length hi - HT.sIx its.length 0 lo)).toArray := by
 have c : ∀ (n d : Nat) (o : Option Int), o.elim d (clipAt n) = HT.sIx n d o := fun n d o => by
  cases o with
  | none => rfl
  | some v =>
   show clipAt n v = if v < 0 then (v + (n : Int)).toNat else min v.toNat n
   unfold clipAt
   split <;> omega
 rw [slicePick_plain, c, c]
 simp
theorem pq : SlR X (jk X.K) := by
 intro pins s sg H x v vl vu lo hi sl Q I rx hs pl pu h
 obtain ⟨a, xs, rfl, hx, q⟩ := h
 cases rx
 obtain ⟨its, r, hl, hz⟩ := I.list hx
 have hlen := r.length
 refine ⟨"list", _, slot_list_getitem.lookup, hl.isList.typeIs, ?_⟩
 refine wpAny_getItem_list_slice hl.isList hs pl pu .none (by simp) ?_ (by rw [List.size_toArray, ← hlen]; exact hz)
 rw [Ys]
 refine ⟨.ref s.heap.objs.size, _, I.lnew (t' := s.toks) (ys := Dm xs lo hi) ?_ (Nat.le_trans (ma xs lo hi) hz), rfl, q _ (I.hok.fresh (Nat.le_refl _))⟩
 unfold Dm
 rw [hlen]
 exact (r.drop _).take _
end DD
namespace DD
open PySem PySem.Spec L2
variable {g : G} {X : Cx} {a b c : Expr} {a' b' c' : E} {pos p2 : Pos} {rest es : List Expr} {es' : Es} {F : Nat}
theorem bind_assoc {α β γ : Type} (r : Res α) (f : α → Sto → Res β) (k : β → Sto → Res γ) : (r.bind f).bind k = r.bind fun a st => (f a st).bind k := by cases r <;> rfl
def rSl (K : PySem.W.Frag) : V → Option Int → Option Int → Hp → VK → Prop := fun x lo hi H Q => jk K x lo hi H Q ∨ Pk K x lo hi H Q ∨ Ql K x lo hi H Q
theorem Mm : SlR X (rSl X.K) := pq.or (Wm.or Yr)
theorem mn (hK : X.K = g.K) (hp : jn k ds = some (lo, hi)) (s : g.Sto rho st H) (rx : g.Rep rho H x v)
    (q : RQ g (slD k x ds st) (Al g rho H Q) rho H) : rSl X.K v lo hi H Q := by
  unfold slD at q
  rw [hp] at q
  simp only at q
  cases x with
  | tup xs =>
    have q : Al g rho H Q (.tup (cutD xs lo hi)) st := q
    obtain ⟨p, vs, rfl, sq, rl⟩ := Cp.mp rx
    have sq' : SqT X.K H p vs := by rw [hK]; exact sq
    by_cases w : HT.sIx vs.length 0 lo = 0 ∧ HT.sIx vs.length vs.length hi = vs.length
    · refine .inr (.inr ⟨p, vs, rfl, sq', w.1, w.2, q _ H rho (.refl _ _) s (Cp.mpr ⟨p, vs, rfl, sq, ?_⟩)⟩)
      have e : cutD xs lo hi = xs := by
        unfold cutD
        rw [rl.length, w.1, w.2, List.drop_zero, Nat.sub_zero, ← rl.length, List.take_length]
      rw [e]; exact rl
    · refine .inr (.inl ⟨p, vs, rfl, sq', w, fun l hl => ?_⟩)
      have e := Fh hl (.tup (Dm vs lo hi))
      exact q (.ref l) _ rho (Bq.keep e rho) (s.same e) (Cp.mpr ⟨l, _, rfl, SqT.of Cb, (RepL.cut rl lo hi).mono (Bq.keep e rho)⟩)
  | loc n =>
    simp only at q
    split at q
    · rename_i xs e
      obtain ⟨p, vs, h1, sq, rl⟩ := dz s e
      obtain ⟨p2, h2, rfl⟩ := bf.mp rx
      rw [h1] at h2; cases h2
      exact .inl ⟨p, vs, rfl, by rw [hK]; exact sq, fun l hl => jo s (RepL.cut rl lo hi) hl q⟩
    · exact q.elim
  | _ => exact q.elim
theorem yt (hK : X.K = g.K) (ha : Sd g X a a') (hb : Sd g X b b') : Sd g X (.Subscript a (.Slice (some b) none none p2) pos) (.sl 1 a' (.cons b' .nil)) := Ay (Lz Mm ha (Jj hb) Pj) fun sg H Q q => by
 obtain ⟨rho, st, env, s, n, q⟩ := q
 simp only [Aa, du, ay, bind_assoc] at q
 refine step s n q fun x st1 v H1 r1 k1 s1 n1 rx q1 => ?_
 refine step s1 n1 q1 fun y st2 u H2 r2 k2 s2 n2 ry q2 => ?_
 cases y with
 | int i => exact ⟨i, ao.mp ry, mn hK (k := 1) (ds := [.int i]) rfl s2 (rx.mono k2) (RQ.mono (.refl _ _) q2 fun _ _ p => p.mono (k1.trans k2))⟩
 | _ => exact q2.elim
theorem Mn (hK : X.K = g.K) (ha : Sd g X a a') (hb : Sd g X b b') : Sd g X (.Subscript a (.Slice none (some b) none p2) pos) (.sl 2 a' (.cons b' .nil)) := Ay (Lz Mm ha Pj (Jj hb)) fun sg H Q q => by
 obtain ⟨rho, st, env, s, n, q⟩ := q
 simp only [Aa, du, ay, bind_assoc] at q
 refine step s n q fun x st1 v H1 r1 k1 s1 n1 rx q1 => ?_
 refine step s1 n1 q1 fun y st2 u H2 r2 k2 s2 n2 ry q2 => ?_
 cases y with
 | int i => exact ⟨i, ao.mp ry, mn hK (k := 2) (ds := [.int i]) rfl s2 (rx.mono k2) (RQ.mono (.refl _ _) q2 fun _ _ p => p.mono (k1.trans k2))⟩
 | _ => exact q2.elim
theorem qm (hK : X.K = g.K) (ha : Sd g X a a') (hb : Sd g X b b') (hc : Sd g X c c') : Sd g X (.Subscript a (.Slice (some b) (some c) none p2) pos) (.sl 3 a' (.cons b' (.cons c' .nil))) := Ay (Lz Mm ha (Jj hb) (Jj hc)) fun sg H Q q => by
 obtain ⟨rho, st, env, s, n, q⟩ := q
 simp only [Aa, du, ay, bind_assoc] at q
 refine step s n q fun x st1 v H1 r1 k1 s1 n1 rx q1 => ?_
 refine step s1 n1 q1 fun y st2 u H2 r2 k2 s2 n2 ry q2 => ?_
 cases y with
 | int i =>
  simp only [bind_assoc] at q2
  refine ⟨i, ao.mp ry, step s2 n2 q2 fun z st3 w H3 r3 k3 s3 n3 rz q3 => ?_⟩
  cases z with
  | int j => exact ⟨j, ao.mp rz, mn hK (k := 3) (ds := [.int i, .int j]) rfl s3 ((rx.mono k2).mono k3) (RQ.mono (.refl _ _) q3 fun _ _ p => p.mono ((k1.trans k2).trans k3))⟩
  | _ => exact q3.elim
 | _ => exact q2.elim
theorem Yt (h : opD o (.int i) (.int j) st = .ok z st') : ∃ k, z = .int k ∧ st' = st := by
 cases o <;> simp only [opD] at h <;> (try split at h) <;> first | (cases h; exact ⟨_, rfl, rfl⟩) | cases h
theorem yu : PIp X .Mult (fun x y H Q => ∃ i j, x = .int i ∧ y = .int j ∧ Et i j ∧ Q (.int (i * j)) H) := by
 rintro pins s sg H x y u v Q I rx ry ⟨i, j, rfl, rfl, hm, q⟩
 obtain ⟨t, rfl⟩ := (show ∃ t, u = Value.int i t from rx)
 obtain ⟨t', rfl⟩ := (show ∃ t', v = Value.int j t' from ry)
 exact PyProof.Rows.imul_int ⟨.int (i * j), H, I.tok _, ⟨_, rfl⟩, q⟩ hm.ok
theorem Yu {i : Nat} {o : Op} {r : TIp} {sg : L2.St} {H : Hp} {D : Ends} (hr : ∀ x y H Q, (∃ k, opD o (.int x) (.int y) [] = .ok (.int k) [] ∧ Q (.int k) H) → r (.int x) (.int y) H Q)
    (hst : ∀ x y st, opD o (.int x) (.int y) st = match opD o (.int x) (.int y) [] with | .ok z _ => .ok z st | .exc c _ => .exc c st | .bad => .bad)
    (q : tS g F (.aug i o a') D sg H) : ow i (tE g a') r D sg H := by
  obtain ⟨rho, st, env, s, n, q⟩ := q
  simp only [ai] at q
  cases e : bw env i with
  | none => rw [e] at q; exact q.elim
  | some d =>
    rw [e] at q
    cases d with
    | int x =>
      simp only at q
      have e' : env[i]? = some (some (.int x)) := by
        unfold bw at e
        cases z : env[i]? with
        | none => rw [z] at e; cases e
        | some o => rw [z] at e; cases o with
          | none => cases e
          | some y => cases e; rfl
      obtain ⟨v, e1, r1⟩ := n.val i _ e'
      cases ao.mp r1
      refine ⟨_, e1, step s n q fun y st1 w H1 r2 k1 s1 n1 ry q1 => ?_⟩
      cases y with
      | int j =>
        cases ao.mp ry
        simp only at q1
        refine hr x j H1 _ ?_
        rw [hst] at q1
        cases ez : opD o (.int x) (.int j) [] with
        | bad => rw [ez] at q1; exact q1.elim
        | exc c t => exfalso; cases o <;> simp only [opD] at ez <;> (try split at ez) <;> cases ez
        | ok z t =>
          rw [ez] at q1
          obtain ⟨k, rfl, rfl⟩ := Yt ez
          refine ⟨k, rfl, ?_⟩
          simp only [ay] at q1
          split at q1
          · exact (show Bc g rho H D (.next _) st1 from q1) _ H1 r2 k1 s1 (n1.set i (ao.mpr rfl))
          · exact q1.elim
      | _ => exact q1.elim
    | _ => exact q.elim
theorem Yv {pt : Pos} (hN : X.N.Nodup) (hi : X.N[i]? = some x) (hx : Loc X.env.scope x) (ha : Sd g X a a') (hf : X.fn x = true ∨ X.env.scope.names.lookup x = some .local := by first | exact .inl rfl | exact .inr rfl | assumption) : SdS g X F (.AugAssign (.Name x pt) .Mult a pos) (.aug i .mul a') :=
 Dn (Vc hN hi hx ha yu hf) fun D sg H q => Yu (fun x y H Q ⟨k, e, q⟩ => by
  simp only [opD] at e
  split at e
  · rename_i h; cases e; exact ⟨x, y, rfl, rfl, h, q⟩
  · cases e) (fun x y st => by simp only [opD]; split <;> rfl) q
theorem Qm {rho : List Addr} {st : Sto} {H : Hp} {n k : Nat} {fs : List (Str × D)} (s : g.Sto rho st H) (h : st[n]? = some (.ins k fs)) : ∃ p dx ws, rho[n]? = some p ∧ H p = some (.ins (g.cls k) dx ws) ∧ ws.length = fs.length ∧ Fi g.K rho H fs ws := by
 have hl : n < rho.length := by rw [s.len]; exact (List.getElem?_eq_some_iff.mp h).1
 obtain ⟨dx, ws, h1, h2, h3⟩ := s.cells n rho[n] _ (List.getElem?_eq_getElem hl) h
 exact ⟨_, dx, ws, List.getElem?_eq_getElem hl, h1, h2, h3⟩
theorem yw (r : Fi g.K rho H fs ws) (h : fs.lookup f = some d) : ∃ v, ws.lookup f = some v ∧ g.Rep rho H d v := by
 have q := r f
 rw [h] at q
 cases e : ws.lookup f with
 | none => rw [e] at q; exact q.elim
 | some v => rw [e] at q; exact ⟨v, rfl, q⟩
theorem Qn {f : Str} {k : Nat} (hcl : Cls X.K (g.cls k)) (hna : cn X.K (g.cls k) f) (ha : Sd g X a a') (hb : attributeBase a f X.env (eval a X.env) = eval a X.env := by rfl) : Sd g X (.Attribute a f pos) (.fld k a' f) := Ay (Vy ha hb) fun sg H Q q => by
 obtain ⟨rho, st, env, s, n, q⟩ := q
 simp only [Aa] at q
 refine step s n q fun x st1 v H1 r1 k1 s1 n1 rx q1 => ?_
 cases x with
 | loc m =>
  simp only at q1
  split at q1
  · rename_i k' fs e
    split at q1
    · rename_i d ed
      split at q1
      · rename_i hk
        subst hk
        obtain ⟨p, dx, ws, h1, h2, _, h3⟩ := Qm s1 e
        obtain ⟨p2, h4, rfl⟩ := bf.mp rx
        rw [h1] at h4; cases h4
        obtain ⟨w, e1, rw1⟩ := yw h3 ed
        exact ⟨p, g.cls k', dx, ws, w, rfl, h2, hcl, hna, e1, (show Al g rho H Q d st1 from q1) _ H1 r1 k1 s1 rw1⟩
      · exact q1.elim
    · exact q1.elim
  · exact q1.elim
 | _ => exact q1.elim
theorem qo (f h : Str) (v : D) : ∀ fs : List (Str × D), (Ct f v fs).lookup h = if h = f then some v else fs.lookup h
 | [] => by
  by_cases e : h = f
  · subst e; simp [Ct]
  · simp [Ct, List.lookup, e]; simp [beq_eq_false_iff_ne.mpr e]
 | (k, x) :: r => by
  unfold Ct
  by_cases ek : k = f
  · subst ek
    rw [if_pos rfl]
    by_cases e : h = k
    · subst e; simp
    · simp [List.lookup_cons, beq_eq_false_iff_ne.mpr e, e]
  · rw [if_neg ek, List.lookup_cons, List.lookup_cons, qo f h v r]
    by_cases e : h = k
    · subst e; simp [ek]
    · simp [beq_eq_false_iff_ne.mpr e]
theorem Yw (f : Str) (v : V) (d : D) : ∀ {ws : List (Str × V)} {fs : List (Str × D)} {rho : List Addr} {H : Hp}, ws.length = fs.length → (ws.lookup f = none ↔ fs.lookup f = none) → (bu f v ws).length = (Ct f d fs).length := by
 have l1 : ∀ ws : List (Str × V), (bu f v ws).length = if ws.lookup f = none then ws.length + 1 else ws.length := by
  intro ws
  induction ws with
  | nil => simp [bu]
  | cons p r ih =>
   obtain ⟨k, x⟩ := p
   unfold bu
   by_cases ek : k = f
   · subst ek; simp
   · have : (f == k) = false := beq_eq_false_iff_ne.mpr (Ne.symm ek)
     rw [if_neg ek, List.length_cons, ih, List.lookup_cons, this]
     split <;> simp_all
 have l2 : ∀ ws : List (Str × D), (Ct f d ws).length = if ws.lookup f = none then ws.length + 1 else ws.length := by
  intro ws
  induction ws with
  | nil => simp [Ct]
  | cons p r ih =>
   obtain ⟨k, x⟩ := p
   unfold Ct
   by_cases ek : k = f
   · subst ek; simp
   · have : (f == k) = false := beq_eq_false_iff_ne.mpr (Ne.symm ek)
     rw [if_neg ek, List.length_cons, ih, List.lookup_cons, this]
     split <;> simp_all
 intro ws fs rho H hl hi
 rw [l1, l2, hl]
 by_cases e : fs.lookup f = none
 · rw [if_pos e, if_pos (hi.mpr e)]
 · rw [if_neg e, if_neg (fun z => e (hi.mp z))]
theorem yx (r : Fi g.K rho H fs ws) (rv : g.Rep rho H d v) : Fi g.K rho H (Ct f d fs) (bu f v ws) := fun h => by
 rw [qo, lx]
 by_cases e : h = f
 · rw [if_pos e, if_pos e]; exact rv
 · rw [if_neg e, if_neg e]; exact r h
theorem fq {o : Expr} {o' : E} {f : Str} {k : Nat} {pt : Pos} (hcl : Cls X.K (g.cls k)) (hna : cn X.K (g.cls k) f) (ho : Sd g X o o') (ha : Sd g X a a') (hs : swapsWith a (some (.Attribute o f pt)) pos.line X.env = pure false := by rfl) : SdS g X F (.Assign [.Attribute o f pt] a pos) (.setf k o' f a') := Dn (vz ho ha hs) fun D sg H q => by
 obtain ⟨rho, st, env, s, n, q⟩ := q
 simp only [ai] at q
 refine step s n q fun y st1 v H1 r1 k1 s1 n1 ry q1 => ?_
 refine step s1 n1 q1 fun x st2 u H2 r2 k2 s2 n2 rx q2 => ?_
 cases x with
 | loc m =>
  simp only at q2
  split at q2
  · rename_i k' fs e
    split at q2
    · rename_i hk
      obtain ⟨hl9, rfl⟩ := hk
      obtain ⟨p, dx, ws, h1, h2, hlen, h3⟩ := Qm s2 e
      obtain ⟨p2, h4, rfl⟩ := bf.mp rx
      rw [h1] at h4; cases h4
      refine ⟨p, g.cls k', dx, ws, rfl, h2, hcl, hna, by omega, ?_⟩
      have rv := ry.mono k2
      have hiff : ws.lookup f = none ↔ fs.lookup f = none := by
       have z := h3 f
       cases e1 : fs.lookup f <;> cases e2 : ws.lookup f <;> rw [e1, e2] at z <;> first | exact z.elim | simp
      obtain ⟨k3, s3⟩ := s2.wroteC (o := .ins (g.cls k') dx (bu f v ws)) (c1 := .ins k' (Ct f y fs)) h1 e rfl h2 ⟨fun _ => nofun, fun _ _ => nofun⟩ fun H3 eH kk => ⟨dx, _, eH, Yw (rho := r2) (H := H2) f v y hlen hiff, (yx h3 rv).mono kk⟩
      exact (show Bc g rho H D (.next env) _ from q2) _ _ r2 ((k1.trans k2).trans k3) s3 (n2.mono k3)
    · exact q2.elim
  · exact q2.elim
 | _ => exact q2.elim
end DD
namespace DD
open PySem PySem.Spec L2
variable {g : G} {X : Cx} {a b c : Expr} {a' b' c' : E} {pos apos : Pos} {rest es : List Expr} {es' : Es} {F : Nat}
theorem Yx (hl : ∀ ds st, ds.length ≠ np → g.call f ds st = .bad) (s : g.Sto rho st H) (r : g.RepL rho H ds vs) (q : RQ g (g.call f ds st) (Al g rho H Q) rho H) : spD g.K g.cls np (g.call f) vs H Q g.xk := by
 have hlen : ds.length = np := Decidable.byContradiction fun z => by rw [hl _ _ z] at q; exact q
 refine ⟨by rw [← r.length]; exact hlen, rho, st, ds, s, r, ?_⟩
 revert q
 cases g.call f ds st with
 | ok d st' => exact fun q => q
 | exc c st' => exact fun q => q
 | bad => exact fun q => q
theorem yy (hl : ∀ ds st, ds.length ≠ np → g.call f ds st = .bad) (s : g.Sto rho st H) (r : g.RepL rho H ds vs)
    (q : RQ g ((g.call f (.loc st.length :: ds) (st ++ [.ins cc []])).bind fun r st' => match r with | .non => .ok (.loc st.length) st' | _ => .bad) (Al g rho H Q) rho H) :
    ∀ x dx, H x = none → H dx = none → dx ≠ x → spD g.K g.cls np (g.call f) (.ref x :: (vs ++ [])) (upd (upd H dx (.own x)) x (.ins (g.cls cc) dx [])) (fun v H2 => v = .non ∧ Q (.ref x) H2) g.xk := by
  intro x dx hx hdx hne
  have e1 := Fh hdx (.own x)
  have s1 := s.same e1
  have hx1 : upd H dx (.own x) x = none := by rw [Ax (Ne.symm hne)]; exact hx
  obtain ⟨k2, s2⟩ := s1.laid hx1 (o := .ins (g.cls cc) dx []) (c := .ins cc []) ⟨dx, [], Cb, rfl, fun f => trivial⟩
  have kk := (Bq.keep e1 rho).trans k2
  rw [List.append_nil]
  refine Yx hl s2 (ds := .loc st.length :: ds) (by simp only [RepL]; exact ⟨_, _, rfl, bf.mpr ⟨x, by rw [← s.len]; simp, rfl⟩, r.mono kk⟩) ?_
  revert q
  cases g.call f (.loc st.length :: ds) (st ++ [.ins cc []]) with
  | bad => exact fun q => q
  | exc c st' => exact fun q H' rho' k s' => q H' rho' (kk.trans k) s'
  | ok d st' =>
    simp only [ay]
    cases d with
    | non =>
      intro q v H' rho' k s' rv
      refine ⟨Dy.mp rv, (show Al g rho H Q (.loc st.length) st' from q) _ H' rho' (kk.trans k) s' (bf.mpr ⟨x, k.at ?_, rfl⟩)⟩
      rw [← s.len]; simp
    | _ => exact fun q => q.elim
theorem Yy {p : Pos} (M : Mk X.K (g.cls cc) fa) (Fn : FnOk X.prog X.w X.K X.mg X.base (CXd X.prog X.w) k fa fd ps (spD g.K g.cls np (g.call f))) (hr : Room (k + 1) X.A) (hg : Gl X x) (hm : X.mg x = some (.ref (g.cls cc)))
    (hb : Binds X.K fd ps []) (hx : Passes (CXd X.prog X.w) X g.xk) (hl : ∀ ds st, ds.length ≠ np → g.call f ds st = .bad) (ha : SdL g X (e :: es) es') (hdb : (x == ("__debug__" : Str)) = false := by decide) (he : starEach (e :: es) X.env = (false, eval e X.env) :: starEach es X.env := by rfl) (hpl : (backTo pos (starEach es X.env)).any (·.1) = false := by rfl) :
    Sd g X (.Call (.Name x p) (e :: es) [] pos) (.mk cc f es') := Ay (wg (dvs := []) (ds := []) M Fn hr hg hm hb .nil hx ha hdb he hpl) fun sg H Q q => by
  obtain ⟨rho, st, env, s, n, q⟩ := q
  simp only [Aa] at q
  refine Fj s n q fun ds st1 vs H1 r1 k1 s1 n1 rps q1 => ?_
  exact yy hl s1 rps (RQ.mono (.refl _ _) q1 fun _ _ p => p.mono k1)
end DD
namespace DD
open PySem PySem.Spec L2
variable {g : G} {X : Cx} {a b c : Expr} {a' b' c' : E} {pos apos cpos : Pos} {rest es : List Expr} {es' : Es} {F : Nat}
def yz : V → List V → Hp → VK → Prop := fun x vs H Q => ∃ z, x = .str z ∧ vs = [] ∧ (Txt.upper z).length ≤ sizeLine ∧ Q (.str (Txt.upper z)) H
theorem Yz : MtR X "str.upper" yz := by
 intro pins s σ H x vs v us Q I rx rv h
 obtain ⟨z, rfl, rfl, hz, q⟩ := h
 obtain ⟨t, rfl⟩ := rx
 cases rv
 exact call_gives PySem.F.slot_str_upper (typeIs_str s z t) PySem.F.entry_str_upper (PySem.F.args_str_upper_1 _) (gives_str_upper z t (decide_eq_false (Nat.not_lt.mpr hz))) ⟨hz, .str (Txt.upper z), H, I.tok _, ⟨_, rfl⟩, q⟩
theorem za (ho : Sd g X o o') (hbase : attributeBase o "upper" X.env (eval o X.env) = eval o X.env := by rfl) (hline : (apos.endLine == cpos.line) = true := by rfl) : Sd g X (.Call (.Attribute o "upper" apos) [] [] cpos) (.mt .upper o' .nil) :=
 Ay (Wy PySem.F.plainAttrs_str PySem.F.slot_str_upper PySem.F.type_str_upper Yz ho hbase hline) fun sg H Q q => by
  obtain ⟨rho, st, env, s, n, q⟩ := q
  simp only [Aa] at q
  refine step s n q fun d st1 x H1 r1 k1 s1 n1 rp q1 => ?_
  split at q1
  · rename_i hl
    cases d with
    | str z =>
     obtain rfl := Bx.mp rp
     simp only [Ap, ay, mtD] at q1
     split at q1
     · rename_i hz
       exact ⟨rfl, z, rfl, rfl, hz, (show Al g rho H Q (.str (Txt.upper z)) _ from q1) _ _ r1 k1 s1 (Bx.mpr rfl)⟩
     · exact q1.elim
    | _ => cases hl
  · exact q1.elim
theorem Qo : ∀ {ds : List D} {vs : List V} {us : List Value} {bs : List Bool}, g.RepL rho H ds vs → Vals vs us → Dg ds = some bs → us = bs.map Value.bool
 | [], vs, us, bs, r, rv, e => by
  simp only [RepL] at r; subst r
  cases rv
  simp [Dg] at e; subst e; rfl
 | d :: t, vs, us, bs, r, rv, e => by
  simp only [RepL] at r
  obtain ⟨v, w, rfl, r1, r2⟩ := r
  cases d with
  | bl b =>
   simp only [Dg] at e
   cases et : Dg t with
   | none => rw [et] at e; cases e
   | some bs' =>
    rw [et] at e; cases e
    cases bc.mp r1
    cases rv with
    | cons q1 q2 =>
     cases q1
     rw [Qo r2 q2 et]; rfl
  | _ => cases e
theorem range_all (bs : List Bool) : (List.range bs.length).all (fun i => bs.getD i false) = bs.all id := by
 rw [Bool.eq_iff_iff, List.all_eq_true, List.all_eq_true]
 constructor
 · intro h b hb
   obtain ⟨i, hi, rfl⟩ := List.mem_iff_getElem.mp hb
   have := h i (List.mem_range.mpr hi)
   simpa [hi] using this
 · intro h i hi
   have hi := List.mem_range.mp hi
   have := h bs[i] (List.getElem_mem hi)
   simpa [hi] using this
def Mo (g : G) (all : Bool) : List V → Hp → VK → Prop := fun xs H Q => ∃ rho st m ds bs p, xs = [.ref p] ∧ g.Sto rho st H ∧ rho[m]? = some p ∧ af st m = some ds ∧ Dg ds = some bs ∧ Q (.bl (if all then bs.all id else bs.any id)) H
theorem Za (hK : X.K = g.K) (hc : X.calm = true) {R : Bool → Prop} (I : Inv X pins sg H s) (S : g.Sto rho st H) (hr : rho[m]? = some p) (hl : af st m = some ds) (hb : Dg ds = some bs)
    (hQ : ∀ (it : Addr) (s₂ : Shared) (fp wr : List Addr) (P : Nat → Value → Prop) (St : Nat → Heap → Prop), Walks X.prog X.w X.A.in1 it fp wr bs.length P St → St 0 s₂.heap → TruthOf X.prog X.w X.A.in1 P (fun i => bs.getD i false) →
      (∀ h' tk, (∀ b o, b ∉ wr → s₂.heap.get? b = some o → h'.get? b = some o) → Inv X pins sg H { s₂ with heap := h', toks := tk }) → QQ (.ref it) s₂) :
    wpAny (model X.prog X.w) X.A.in1 (pyIter (.ref p)) QQ X.xe s := by
  obtain ⟨p2, vs, h1, sq, rl⟩ := dz S hl
  rw [hr] at h1; cases h1
  rw [← hK] at sq
  obtain ⟨its, rv, pl, hz⟩ := I.list sq
  have e := Qo rl rv hb
  subst e
  have hlt : p < s.heap.objs.size := by
    obtain ⟨o, ho, _⟩ := pl.isList
    exact Heap.lt_size ho
  refine wpAny_pyIter_list pl.isList (hQ _ _ [s.heap.objs.size, p] [s.heap.objs.size] (fun i v => (bs.map Value.bool).toArray[i]? = some v) (fun i h => h.IsListIter s.heap.objs.size p i ∧ h.IsList p (bs.map Value.bool).toArray) ?_ ⟨?_, ?_⟩ ?_ ?_)
  · have W := Walks.list (prog := X.prog) (w := X.w) (A := X.A.in1) (I.ok.hd hc) s.heap.objs.size p (Nat.ne_of_lt hlt) (bs.map Value.bool).toArray
    simpa using W
  · exact ⟨_, Heap.get?_push_size _ rfl, rfl, rfl⟩
  · exact pl.isList.push _
  · intro i v s Q E hP hQ
    have hP : (bs.map Value.bool)[i]? = some v := by simpa using hP
    rw [List.getElem?_map] at hP
    cases eb : bs[i]? with
    | none => rw [eb] at hP; cases hP
    | some b =>
      rw [eb] at hP; cases hP
      have : bs.getD i false = b := by simp [List.getD, eb]
      have hQ : Q (bs.getD i false) s := hQ
      rw [this] at hQ
      exact wpAny_truthy_bool hQ
  · intro h' tk hk
    refine I.kept (t' := tk) (h' := h') fun b u e => hk b u ?_ (Heap.get?_push_of_some _ e)
    intro z
    simp at z
    subst z
    exact Nat.lt_irrefl _ (Heap.lt_size e)
theorem zb (hK : X.K = g.K) (hc : X.calm = true) : cz X (.builtin "all") (Mo g true) := by
 rintro pins s sg H xs us Q I r ⟨rho, st, m, ds, bs, p, rfl, S, hr, hl, hb, q⟩
 obtain ⟨u, rfl, ru⟩ := vals1 r
 cases ru
 refine call_all_walk (Za (R := fun _ => True) hK hc I S hr hl hb fun it s₂ fp wr P St W hst htr hk => ⟨it, fp, wr, bs.length, P, St, _, rfl, W, hst, htr, fun h' tk k => ?_⟩)
 rw [range_all]
 exact ⟨.bl _, H, hk h' tk k, rfl, q⟩
theorem Zb (hf : f = if al then .allB else .anyB) (s : g.Sto rho st H) (r : g.RepL rho H ds vs) (q : RQ g (btD f ds st) (Al g rho H Q) rho H) : Mo g al vs H Q := by
 obtain ⟨d, rfl⟩ := Ie (by cases al <;> subst hf <;> exact ⟨by decide, by decide⟩) q
 obtain ⟨v, rfl, r1⟩ := Eu r
 have go : ∀ n, d = .loc n → (∃ bs, (af st n).bind Dg = some bs ∧ Al g rho H Q (.bl (if al then bs.all id else bs.any id)) st) → Mo g al [v] H Q := by
  rintro n rfl ⟨bs, e, q⟩
  cases el : af st n with
  | none => rw [el] at e; cases e
  | some xs =>
   rw [el] at e
   obtain ⟨p, h1, rfl⟩ := bf.mp r1
   exact ⟨rho, st, n, xs, bs, p, rfl, s, h1, el, e, q _ H rho (.refl _ _) s (bc.mpr rfl)⟩
 cases al with
 | true =>
  subst hf
  cases d with
  | loc n =>
   simp only [if_true, btD] at q
   split at q
   · rename_i bs e; exact go n rfl ⟨bs, e, q⟩
   · exact q.elim
  | _ => exact q.elim
 | false =>
  subst hf
  cases d with
  | loc n =>
   simp only [Bool.false_eq_true, if_false, btD] at q
   split at q
   · rename_i bs e; exact go n rfl ⟨bs, e, q⟩
   · exact q.elim
  | _ => exact q.elim
theorem Ig {p : Pos} (hK : X.K = g.K) (hc : X.calm = true) (hg : Gl X "all") (hm : X.mg "all" = none) (ha : SdL g X (e :: es) es') (he : starEach (e :: es) X.env = (false, eval e X.env) :: starEach es X.env := by rfl) (hpl : (backTo pos (starEach es X.env)).any (·.1) = false := by rfl) :
    Sd g X (.Call (.Name "all" p) (e :: es) [] pos) (.bt .allB es') := Ay (Ht (zb hK hc) hg hm rfl ha (by decide) (by decide) he hpl) fun sg H Q q => bts (f := .allB) (fun ds vs st rho H Q s r q => Zb (al := true) rfl s r q) q
end DD
namespace DD
open PySem PySem.Spec L2
open PyProof.Rows hiding St RelV
variable {g : G} {X : Cx} {pos : Pos} {F : Nat}
def Ih (g : G) (e : Es) : TT := fun sg H Q => ∃ rho st env, g.Sto rho st H ∧ g.Env rho H env sg ∧ RQ g (Bj g.tab g.call e env st) (dh g rho H Q) rho H
def PTs (X : Cx) (ifs : List Expr) (t : TT) : Prop := ∀ (pins : List (Addr × Obj)) (s : Shared) (sg : L2.St) (H : Hp) (Q : Bool → Hp → Prop), Inv X pins sg H s → t sg H Q →
 wpAny (model X.prog X.w) X.A (forIn ifs true fun c r => if r = true then do let ok ← isTrue c X.env (eval c X.env); pure (ForInStep.yield ok) else pure (ForInStep.yield r)) (TP X pins sg Q) X.xe s
theorem Ci : PTs X [] (Ih g .nil) := fun pins s sg H Q I q => by
 obtain ⟨rho, st, env, S, n, q⟩ := q
 simp only [Bj] at q
 exact wpAny_tests_nil ⟨H, I, (show dh g rho H Q true st from q) H rho (.refl _ _) S⟩
abbrev Mp (X : Cx) (scope : Scope) (cl : List (Str × Addr)) (L : Addr) : PySem.Env := { newEnv scope L X.env.globals cl X.env.qual none .none (some X.env) builtinsNs with scope := relabel scope X.env }
abbrev cxG (X : Cx) (N : List Str) (scope : Scope) (cl : List (Str × Addr)) (L : Addr) (s0 : Shared) (H0 : Hp) (fp : List Addr) (pn : List (Addr × Obj)) : Cx :=
 { X with N := N, s₀ := s0, H₀ := H0, env := Mp X scope cl L, outer := X.stack, stack := X.stack, ex := fp, fn := fun x => (cl.lookup x).isNone, pn := pn, xe := fun _ _ => False }
theorem mq (I : L2.Inv X pins sg H s) (h : Cy X pins H2 b) : b ∉ frs X.stack := fun hm => by
 rcases List.mem_cons.mp (I.stkSub b hm) with z | z
 · exact h.2.1 z
 · exact h.2.2.1 z
structure Clos (X : Cx) (scope : Scope) (cl : List (Str × Addr)) : Prop where
 sub : ∀ x c, cl.lookup x = some c → X.env.cells.lookup x = some c
 has : ∀ x, ((relabel scope X.env).names.lookup x = some .cell ∨ (relabel scope X.env).names.lookup x = some .free) → ∃ c, cl.lookup x = some c
theorem qp {pins : List (Addr × Obj)} {sg : L2.St} {H : Hp} {s3 : Shared} {N : List Str} {nl : Nat} {fv : List Nat} {scope : Scope} {cl : List (Str × Addr)} {fp : List Addr} {h1 : Heap} {m : Str → Option Value} {tk : Nat} (hkind : scope.kind = .function) (C : Clos X scope cl)
    (hN : N.length = nl + fv.length) (hfv : ∀ j k, fv[j]? = some k → ∃ x c, N[nl + j]? = some x ∧ X.N[k]? = some x ∧ cl.lookup x = some c ∧ (X.env.scope.names.lookup x = some .cell ∨ X.env.scope.names.lookup x = some .free) ∧ ((relabel scope X.env).names.lookup x = some .cell ∨ (relabel scope X.env).names.lookup x = some .free))
    (I : L2.Inv X pins sg H s3) (hfp : ∀ b ∈ fp, Cy X pins H b ∧ b < s3.heap.objs.size) (hn : h1.Ns s3.heap.objs.size m) (hk : ∀ b o, s3.heap.get? b = some o → h1.get? b = some o) :
    L2.Inv (cxG X N scope cl s3.heap.objs.size s3 H fp (X.pn ++ pins)) [] (List.replicate nl none ++ fv.map fun k => (sg[k]?).join) H { s3 with heap := h1, toks := tk } := by
  have fsF : ∀ b, b < s3.heap.objs.size → b ≠ s3.heap.objs.size := fun b h z => by rw [z] at h; exact Nat.lt_irrefl _ h
  refine ⟨⟨I.ok.mod, hkind, I.ok.glob, I.ok.blt, Nat.le_refl _, fun x y c h1 h2 => I.ok.inj x y c (C.sub x c h1) (C.sub y c h2), fun y hy => C.has y hy, fun y c hy h => ?_, I.ok.hd, I.ok.frames, .inl rfl, fun b hb => ⟨fsF b (hfp b hb).2, fun y c h => (hfp b hb).1.2.2.2.2.1 y c (C.sub y c h)⟩, I.bs, Nat.le_trans I.ok.bsz I.sz, fun b o e hb => ?_, fun b hb => mq I (hfp b hb).1, I.stack, I.stkFree⟩,
    rfl, I.bare, Un.kept hk, ⟨m, hn, fun i y v e1 e2 _ => ?_⟩, fun y c h => ?_, I.hok.fresh (Nat.le_refl _), fun y c h => I.freeC y c (C.sub y c h), fun p hp => ?_, I.hok.kept hk, ?_⟩
  · have h : cl.lookup y = some c := h
    have hy : (cl.lookup y).isNone = true := hy
    rw [h] at hy; cases hy
  · obtain ⟨f, _⟩ := hfp b hb
    rcases f.2.2.2.1 with z | z
    · exact I.ok.noex b o e z
    · exact absurd (Nat.lt_of_lt_of_le (Heap.lt_size e) (Nat.le_trans I.ok.bsz z)) (Nat.lt_irrefl _)
  · by_cases hi : i < nl
    · rw [List.getElem?_append_left (by simpa using hi), List.getElem?_replicate] at e2
      split at e2 <;> cases e2
    · rw [List.getElem?_append_right (by simp; omega)] at e2
      simp only [List.length_replicate, List.getElem?_map] at e2
      cases ek : fv[i - nl]? with
      | none => rw [ek] at e2; cases e2
      | some k =>
        rw [ek] at e2
        simp only [Option.map_some, Option.some.injEq] at e2
        obtain ⟨x, c, n1, n2, n3, n4, n5⟩ := hfv _ k ek
        have ei : nl + (i - nl) = i := by omega
        rw [ei] at n1
        have e1 : N[i]? = some y := e1
        rw [n1] at e1; cases e1
        have e3 : sg[k]? = some (some v) := by
          cases z : sg[k]? with
          | none => rw [z] at e2; cases e2
          | some o => rw [z] at e2; cases o with
            | none => cases e2
            | some w => cases e2; rfl
        obtain ⟨m0, hm0, hl⟩ := I.loc
        obtain ⟨u, ru, lk⟩ := hl k _ v n2 e3 (by rcases n4 with z | z; exact .inr (.inl z); exact .inr (.inr z))
        refine ⟨u, ru, .inr ⟨n5, c, n3, ?_⟩⟩
        rcases lk with ⟨k1, _⟩ | ⟨_, c2, k2, k3⟩
        · have k1 : X.env.scope.names.lookup y = some .local := k1
          rcases n4 with z | z <;> (rw [z] at k1; cases k1)
        · rw [C.sub _ c n3] at k2; cases k2
          obtain ⟨o, ho, hd⟩ := k3
          exact ⟨o, hk _ _ ho, hd⟩
  · obtain ⟨v, o, ho, hd⟩ := I.cell y c (C.sub y c h)
    exact ⟨v, o, hk _ _ ho, hd⟩
  · rw [List.append_nil] at hp
    obtain ⟨p1, p2, p3, p4, p5⟩ := I.pin p hp
    refine ⟨hk _ _ p1, p2, fsF _ (Heap.lt_size p1), fun hm => ?_, p5⟩
    rcases List.mem_cons.mp (I.stkSub p.1 hm) with z | z
    · exact p3 z
    · exact p4 z
  · show (List.replicate nl none ++ fv.map _).length = N.length
    simp [hN]
theorem zc (I : Nat → Shared → Prop)
    (turn : ∀ n s, I n s → wpAny (model prog w) A (pyNext it) (fun r s₁ => match r with
      | none => R (.ok .next) s₁
      | some v => wpAny (model prog w) A (letOwnedTupleGo target it v) (fun _ s₁ => wpAny (model prog w) A (assign target env v) (fun _ s₂ =>
          wpAny (model prog w) A (forIn ifs true fun c r => if r = true then do let ok ← isTrue c env (eval c env); pure (ForInStep.yield ok) else pure (ForInStep.yield r)) (fun ok s₃ =>
            if ok = true then wpAny (model prog w) A (eval elt env) (fun x s₄ =>
              wpAny (model prog w) A (call (.builtin "list.append") [acc, x]) (fun _ s₅ => ∃ m, m < n ∧ I m s₅) (notedBy (model prog w) A env fun e s' => R (.error e) s') s₄) (notedBy (model prog w) A env fun e s' => R (.error e) s') s₃
            else ∃ m, m < n ∧ I m s₃) (notedBy (model prog w) A env fun e s' => R (.error e) s') s₂) (notedBy (model prog w) A env fun e s' => R (.error e) s') s₁) (notedBy (model prog w) A env fun e s' => R (.error e) s') s₁) (notedBy (model prog w) A env fun e s' => R (.error e) s') s)
    (n : Nat) (h : I n s) : codeAny (model prog w) A (.compLoop (.ListComp elt [⟨target, iter, ifs, 0⟩] scope pos) 0 it acc env) R s := by
  refine codeAny_loop rfl I (fun n s hI => ?_) n h
  show wpAny _ _ ((compTurn (.ListComp elt [⟨target, iter, ifs, 0⟩] scope pos) 0 it acc env).onRaise (fun x => do noteFrame x env; theTreesLotGoes x)) _ _ s
  refine wpAny_noted ?_
  rw [compTurn_list]
  refine wpAny_bind (wpAny_standAt (wpAny_bind (wpAny_mono (turn n s hI) (fun r s₁ h₁ => ?_) fun _ _ h' => h')))
  cases r with
  | none => exact wpAny_pure h₁
  | some v =>
    refine wpAny_bind (wpAny_mono h₁ (fun _ s₁ h₁ => ?_) fun _ _ h' => h')
    refine wpAny_bind (wpAny_mono h₁ (fun _ s₂ h₂ => wpAny_bind (wpAny_mono h₂ (fun ok s₃ h₃ => ?_) fun _ _ h' => h')) fun _ _ h' => h')
    cases ok with
    | false => exact wpAny_pure ⟨rfl, h₃⟩
    | true =>
      exact wpAny_bind (wpAny_bind (wpAny_mono h₃ (fun x s₄ h₄ => wpAny_bind (wpAny_mono h₄ (fun _ s₅ h₅ => wpAny_pure (wpAny_pure ⟨rfl, h₅⟩)) fun _ _ h' => h')) fun _ _ h' => h'))
end DD
namespace DD
open PySem PySem.Spec L2
open PyProof.Rows hiding St RelV
variable {g : G} {X : Cx} {pos : Pos} {F : Nat}
def ItJ (g : G) (J : It) (xs : List D) (p : Option Nat) (r1 : List Addr) (H1 : Hp) : Prop := ∀ rho st H, g.Keep r1 H1 rho H → g.Sto rho st H → stays st p xs = true → J.stop xs.length H ∧ ∀ (i : Nat) (d : DD.D), xs[i]? = some d → J.go i H ∧ ∀ x H', J.yld i H x H' → H' = H ∧ g.Rep rho H d x
def SdI (g : G) (X : Cx) (target iter : Expr) (n : Nat) (it' : E) : Prop := ∃ wi : TI, PI X target iter wi ∧ ∀ rho st env sg H (R : It → Hp → Prop), g.Sto rho st H → g.Env rho H env sg →
 RQ g (Aa g.tab g.call it' env st) (fun d st1 => ∃ xs p, Bi n st1 d = some (xs, p) ∧ ∀ H1 r1 J, g.Keep rho H r1 H1 → g.Sto r1 st1 H1 → ItJ g J xs p r1 H1 → R J H1) rho H → wi sg H R
theorem di (hK : X.K = g.K) (h : Sd g X iter it') : SdI g X target iter 0 it' := by
 refine ⟨_, Ow h, fun rho st env sg H R s n q => ?_⟩
 refine ⟨rho, st, env, s, n, ?_⟩
 revert q
 cases Aa g.tab g.call it' env st with
 | bad => exact fun q => q
 | exc c st1 => exact fun q => q
 | ok d st1 =>
  rintro ⟨xs, p, e, q⟩ v H1 r1 k1 s1 rv
  cases d with
  | loc m =>
   simp only [Bi] at e
   cases el : af st1 m with
   | none => rw [el] at e; cases e
   | some ds =>
    rw [el] at e; cases e
    obtain ⟨a, vs, hr, sq, rl⟩ := dz s1 el
    obtain ⟨a2, hr2, rfl⟩ := bf.mp rv
    rw [hr] at hr2; cases hr2
    refine ⟨a, rfl, ⟨vs, by rw [hK]; exact sq⟩, q H1 r1 _ k1 s1 ?_⟩
    rw [hK]
    intro rho st H kk s hst
    have hst : af st m = some xs := of_decide_eq_true hst
    obtain ⟨p3, ws, hr3, sq3, rl3⟩ := dz s hst
    rw [kk.at hr] at hr3; cases hr3
    refine ⟨⟨ws, sq3, by rw [← rl3.length]; exact Nat.le_refl _⟩, fun i d hd => ?_⟩
    obtain ⟨v, hv, rv⟩ := rl3.get hd
    refine ⟨⟨ws, v, sq3, hv⟩, fun x H' y => ⟨y.1, ?_⟩⟩
    have := y.2 ws sq3
    rw [hv] at this; cases this
    exact rv
  | _ => cases e
theorem Zc (hK : X.K = g.K) (h : Sd g X iter it') : SdI g X target iter 1 it' := by
 refine ⟨_, ox h, fun rho st env sg H R s n q => ?_⟩
 refine ⟨rho, st, env, s, n, ?_⟩
 revert q
 cases Aa g.tab g.call it' env st with
 | bad => exact fun q => q
 | exc c st1 => exact fun q => q
 | ok d st1 =>
  rintro ⟨xs, p, e, q⟩ v H1 r1 k1 s1 rv
  cases d with
  | tup ds =>
   simp only [Bi] at e; cases e
   obtain ⟨a, vs, rfl, sq, rl⟩ := Cp.mp rv
   refine ⟨a, rfl, ⟨vs, by rw [hK]; exact sq⟩, q H1 r1 _ k1 s1 ?_⟩
   rw [hK]
   intro rho st H kk s hst
   have sq3 := kk.tup a vs sq
   have rl3 := rl.mono kk
   refine ⟨⟨vs, sq3, by rw [← rl3.length]; exact Nat.le_refl _⟩, fun i d hd => ?_⟩
   obtain ⟨v, hv, rv⟩ := rl3.get hd
   refine ⟨⟨vs, v, sq3, hv⟩, fun x H' y => ⟨y.1, ?_⟩⟩
   have := y.2 vs sq3
   rw [hv] at this; cases this
   exact rv
  | _ => cases e
theorem zd {lo : Int} {n : Nat} {r1 : List Addr} {H1 : Hp} : ItJ g (Itr lo n) (Br lo n) none r1 H1 := by
 intro rho st H _ _ _
 refine ⟨?_, fun i d hd => ?_⟩
 · show n ≤ _
   simp [Br]
 · have hi : i < n := by
    have := (List.getElem?_eq_some_iff.mp hd).1
    simpa [Br] using this
   refine ⟨hi, fun x H' y => ⟨y.1, ?_⟩⟩
   have hd' : d = .int (lo + (i : Nat)) := by
    have := (List.getElem?_eq_some_iff.mp hd).2
    simp [Br] at this
    simp [← this]
   rw [hd', ao]
   exact y.2
theorem Qp {target a : Expr} {p pos : Pos} (hg : Gl X "range") (hm : X.mg "range" = none) (ha : Sd g X a a') (hs : starEach [a] X.env = [(false, eval a X.env)] := by rfl) : SdI g X target (.Call (.Name "range" p) [a] [] pos) 2 (.tupE (.cons a' .nil)) := by
 refine ⟨_, Ox hg hm (aa ha Ac hs) hs, fun rho st env sg H R s n q => ?_⟩
 refine ⟨rho, st, env, s, n, ?_⟩
 simp only [Aa] at q
 revert q
 cases ee : Ap g.tab g.call (.cons a' .nil) env st with
 | bad => exact fun q => q
 | exc c st1 => exact fun q => q
 | ok ds st1 =>
  simp only [ay]
  intro q vs H1 r1 k1 s1 rv
  split at q
  · obtain ⟨xs, p, e, q⟩ := q
    simp only [Bi] at e
    cases er : Dt ds with
    | none => rw [er] at e; cases e
    | some ys =>
     rw [er] at e; cases e
     have hl : ds.length = 1 := ml ee
     obtain ⟨j, rfl, j1, j2, rfl⟩ := Qj (e := a) er hl
     obtain ⟨v, rfl, rv2⟩ := Eu rv
     exact ⟨j, by rw [ao.mp rv2], j1, j2, q H1 r1 _ k1 s1 zd⟩
  · exact q.elim
def Mq (g : G) (tg : List Nat) (one : Bool) (Bs : Env) (ifs : Es) (elt : E) (d : D) (st : Sto) : Res (Option D) := match store tg one d Bs with
 | some env' => (Bj g.tab g.call ifs env' st).bind fun b st => if b then (Aa g.tab g.call elt env' st).bind fun y st => .ok (some y) st else .ok none st
 | none => .bad
theorem mr : ∀ {xs : List D} {st : Sto}, compLoop all p n0 body xs st ≠ .exc c st'
 | [], st => by
  simp only [compLoop]
  split <;> (intro h; cases h)
 | d :: r, st => by
  simp only [compLoop]
  split
  · split
    · split
      · split
        · exact mr
        · intro h; cases h
      · intro h; cases h
    · exact mr
    · intro h; cases h
  · intro h; cases h
theorem Mr : ∀ {is : List Nat} {ds : List D} {env env' : Env}, br is ds env = some env' → (∀ i ∈ is, i < nl) → env'.length = env.length ∧ ∀ j, nl ≤ j → env'[j]? = env[j]?
 | [], [], env, env', e, _ => by simp only [br] at e; cases e; exact ⟨rfl, fun _ _ => rfl⟩
 | [], _ :: _, env, env', e, _ => by simp [br] at e
 | _ :: _, [], env, env', e, _ => by simp [br] at e
 | i :: r, d :: t, env, env', e, h => by
  simp only [br] at e
  split at e
  · obtain ⟨h1, h2⟩ := Mr e fun k hk => h k (List.mem_cons_of_mem _ hk)
    have hi := h i List.mem_cons_self
    refine ⟨by rw [h1]; simp, fun j hj => ?_⟩
    rw [h2 j hj, List.getElem?_set_ne (by omega)]
  · cases e
theorem Qq (e : store is one d env = some env') (h : ∀ i ∈ is, i < nl) : env'.length = env.length ∧ ∀ j, nl ≤ j → env'[j]? = env[j]? := by
 unfold store at e
 cases one with
 | true => rw [if_pos rfl] at e; exact Mr e h
 | false =>
  rw [if_neg Bool.false_ne_true] at e
  cases d with
  | tup ds => exact Mr e h
  | _ => cases e
theorem qr (h : (bj nl fv env)[j]? = some (some d)) : nl ≤ j ∧ ∃ k, fv[j - nl]? = some k ∧ bw env k = some d := by
 unfold bj at h
 by_cases hj : j < nl
 · rw [List.getElem?_append_left (by simpa using hj), List.getElem?_replicate] at h
   split at h <;> cases h
 · refine ⟨by omega, ?_⟩
   rw [List.getElem?_append_right (by simp; omega)] at h
   simp only [List.length_replicate, List.getElem?_map] at h
   cases ek : fv[j - nl]? with
   | none => rw [ek] at h; cases h
   | some k => rw [ek] at h; simp only [Option.map_some, Option.some.injEq] at h; exact ⟨k, rfl, h⟩
theorem Zd (h : bw env k = some d) : env[k]? = some (some d) := by
 unfold bw at h
 cases z : env[k]? with
 | none => rw [z] at h; cases h
 | some o => rw [z] at h; cases o with
  | none => cases h
  | some y => cases h; rfl
theorem Qr (n : g.Env rho H env sg) (nl : Nat) (fv : List Nat) : g.Env rho H (bj nl fv env) (List.replicate nl none ++ fv.map fun k => (sg[k]?).join) := by
 refine ⟨by simp [bj], fun j d e => ?_⟩
 obtain ⟨hj, k, ek, ed⟩ := qr e
 obtain ⟨v, e1, r⟩ := n.val k d (Zd ed)
 refine ⟨v, ?_, r⟩
 rw [List.getElem?_append_right (by simp; omega)]
 simp [ek, e1]
theorem Qs (h0 : Bs = bj nl fv env) (hl : env'.length = Bs.length) (hh : ∀ j, nl ≤ j → env'[j]? = Bs[j]?) (n : g.Env rho H env' sg) : g.Env rho H Bs sg := by
 subst h0
 refine ⟨by rw [← hl]; exact n.len, fun j d e => ?_⟩
 obtain ⟨hj, _⟩ := qr e
 exact n.val j d (by rw [hh j hj]; exact e)
end DD
namespace DD
open PySem PySem.Spec L2
open PyProof.Rows hiding St RelV
variable {g : G} {X : Cx} {pos : Pos} {F : Nat}
theorem qt {elt iter target : Expr} {ifs : List Expr} {N : List Str} {nl : Nat} {fv tgs : List Nat} {one : Bool} {k : Nat} {scope : Scope} {cl : List (Str × Addr)} {it' elt' : E} {ifs' : Es} (hK : X.K = g.K) (hc : X.calm = true) (hkind : scope.kind = .function) (hcell : ∀ y ∈ scope.names, y.2 ≠ .cell)
    (hnames : ∀ y ∈ scope.names, y.2 = .local → scope.names.lookup y.1 = some .local) (hclos : closureFor scope X.env = pure cl) (C : Clos X scope cl) (hN : N.length = nl + fv.length)
    (hfv : ∀ j k, fv[j]? = some k → ∃ x c, N[nl + j]? = some x ∧ X.N[k]? = some x ∧ cl.lookup x = some c ∧ (X.env.scope.names.lookup x = some .cell ∨ X.env.scope.names.lookup x = some .free) ∧ ((relabel scope X.env).names.lookup x = some .cell ∨ (relabel scope X.env).names.lookup x = some .free))
    (htg : ∀ i ∈ tgs, i < nl) (hi : SdI g X target iter k it') (hg : ∀ L s0 H0 fp pn, PG (cxG X N scope cl L s0 H0 fp pn) target (tg g.K tgs one))
    (ht : ∀ L s0 H0 fp pn, PTs (cxG X N scope cl L s0 H0 fp pn) ifs (Ih (g.with fun _ _ _ => False) ifs')) (he : ∀ L s0 H0 fp pn, Sd (g.with fun _ _ _ => False) (cxG X N scope cl L s0 H0 fp pn) elt elt')
    (hs : ∀ x, foldedSetIterable iter X.env x = pure x := by intro _; rfl)
    {use : Option (Value → Sem Unit)} {Qv : Value → Shared → Prop} {pins : List (Addr × Obj)} {s : Shared} {sg : L2.St} {H : Hp} {Q : VK} (I : L2.Inv X pins sg H s) (q : tE g (.comp k one nl tgs fv it' ifs' elt') sg H Q)
    (hfin : ∀ (ac C : Addr) (H' : Hp) (s4 : Shared), (∃ m, s4.heap.Ns C m) → Cy X pins H' C → (∀ h', Heap.SameBut C s4.heap h' → L2.Inv X pins sg H' { s4 with heap := h' }) → Q (.ref ac) H' → compPost (model X.prog X.w) X.A X.xe use Qv (.ref ac) C (.ok .next) s4) :
    wpAny (model X.prog X.w) X.A (comprehension (.ListComp elt [⟨target, iter, ifs, 0⟩] scope pos) scope X.env (firstIterPos [⟨target, iter, ifs, 0⟩] pos) (newList []) (firstAsync [⟨target, iter, ifs, 0⟩]) (firstIter [⟨target, iter, ifs, 0⟩] X.env) use) Qv X.xe s := by
  obtain ⟨rho, st, env, S, n, q⟩ := q
  obtain ⟨wi, hpi, hwi⟩ := hi
  generalize hB : Mq g tgs one (bj nl fv env) ifs' elt' = body
  have q : RQ g ((Aa g.tab g.call it' env st).bind fun d st => match Bi k st d with
      | some (xs, p) => (compLoop xs p st.length body xs (st ++ [.lst []])).bind fun _ st' => .ok (.loc st.length) st'
      | none => .bad) (Al g rho H Q) rho H := by
    rw [← hB]
    simp only [Aa] at q
    exact q
  refine wpAny_comprehension_free (use := use) rfl hs hclos hkind hnames ?_
  have hpi := hpi pins s sg H
    (fun J H1 => ∃ r1 st1 xs p, g.Keep rho H r1 H1 ∧ g.Sto r1 st1 H1 ∧ ItJ g J xs p r1 H1 ∧
      RQ g ((compLoop xs p st1.length body xs (st1 ++ [.lst []])).bind fun _ st' => .ok (.loc st1.length) st') (Al g rho H Q) r1 H1) I ?_
  · refine thn hpi fun v s1 h1 => thn h1 fun itv s2 h2 => ?_
    obtain ⟨it, fp, tn, J, H1, rfl, I2, T, st2, f2, r1, st1, xs, p, k1, S1, hJ, q1⟩ := h2
    obtain ⟨stf, hloop, q1⟩ : ∃ stf, compLoop xs p st1.length body xs (st1 ++ [.lst []]) = .ok () stf ∧ Al g rho H Q (.loc st1.length) stf := by
      revert q1
      cases e : compLoop xs p st1.length body xs (st1 ++ [.lst []]) with
      | ok u stf => exact fun q => ⟨stf, rfl, q⟩
      | exc c st2 => exact absurd e mr
      | bad => exact fun q => q.elim
    refine wpAny_newObj_type ?_
    have I3 := I2.lnew (its := []) (ys := []) (t' := s2.toks) .nil (Nat.zero_le _)
    have hn3 := I2.fresh
    generalize hs3 : ({ s2 with heap := s2.heap.push { cls := .type "list", data := .seq ([] : List Value).toArray } } : Shared) = s3
    have I3 : L2.Inv X pins sg (upd H1 s2.heap.objs.size (.lst [])) s3 := by rw [← hs3]; exact I3
    have hsz : s3.heap.objs.size = s2.heap.objs.size + 1 := by rw [← hs3]; exact Heap.size_push _ _
    have up3 : ∀ b o, s2.heap.get? b = some o → s3.heap.get? b = some o := fun b o e => by rw [← hs3]; exact Heap.get?_push_of_some _ e
    have hfp : ∀ b ∈ fp, Cy X pins (upd H1 s2.heap.objs.size (.lst [])) b ∧ b < s3.heap.objs.size := fun b hb => by
      obtain ⟨o, ho, _⟩ := T.obj _ _ st2 b hb
      have hlt := Heap.lt_size ho
      refine ⟨⟨?_, (f2 b hb).2⟩, by rw [hsz]; exact Nat.lt_succ_of_lt hlt⟩
      rw [Ax (Nat.ne_of_lt hlt)]
      exact (f2 b hb).1
    have k13 : g.Keep r1 H1 (r1 ++ [s2.heap.objs.size]) (upd H1 s2.heap.objs.size (.lst [])) := (S1.laid hn3 (o := .lst []) (c := .lst []) ⟨[], Cb, by simp [RepL]⟩).1
    have S3 : g.Sto (r1 ++ [s2.heap.objs.size]) (st1 ++ [.lst []]) (upd H1 s2.heap.objs.size (.lst [])) := (S1.laid hn3 (o := .lst []) (c := .lst []) ⟨[], Cb, by simp [RepL]⟩).2
    have acc_at : (r1 ++ [s2.heap.objs.size])[st1.length]? = some s2.heap.objs.size := by rw [← S1.len]; simp
    generalize hH3 : upd H1 s2.heap.objs.size (.lst []) = H3 at *
    generalize hac : s2.heap.objs.size = ac at *
    generalize hr3 : r1 ++ [ac] = r3 at *
    refine wpAny_newFunctionEnv hcell (by intro y hy; simp at hy) (fun h₁ hns₁ hsb₁ => ?_) hkind
    have hk1 : ∀ b o, s3.heap.get? b = some o → h₁.get? b = some o := fun b o e => hsb₁.extBut b o (Nat.ne_of_lt (Heap.lt_size e)) (Heap.get?_push_of_some _ e)
    have J0 := qp (N := N) (nl := nl) (fv := fv) (tk := s3.toks + ([] : List (Str × Value)).length) hkind C hN hfv I3 hfp hns₁ hk1
    have n0 := Qr (n.mono (k1.trans k13)) nl fv
    generalize hsg0 : (List.replicate nl none ++ fv.map fun k => (sg[k]?).join : L2.St) = sg0 at J0 n0
    have tn0 : tn 0 h₁ := T.keep _ _ _ st2 fun b _ o e => hk1 b o (up3 b o e)
    have bfp : ∀ {H' : Hp}, (∀ b ∈ fp, H' b = none) → ∀ b ∈ fp, Cy (cxG X N scope cl s3.heap.objs.size s3 H3 fp (X.pn ++ pins)) [] H' b := fun hn b hb => by
      obtain ⟨f, hlt⟩ := hfp b hb
      refine ⟨hn b hb, fun z => ?_, mq I3 f, .inl hb, fun y c h => f.2.2.2.2.1 y c (C.sub y c h), fun p hp => f.2.2.2.2.2 p (by rw [List.append_nil] at hp; exact hp)⟩
      have : s3.heap.objs.size < s3.heap.objs.size := by rw [z] at hlt; exact hlt
      exact Nat.lt_irrefl _ this
    have loop : codeAny (model X.prog X.w) X.A (.compLoop (.ListComp elt [⟨target, iter, ifs, 0⟩] scope pos) 0 (.ref it) (.ref ac) (Mp X scope cl s3.heap.objs.size))
        (compPost (model X.prog X.w) X.A X.xe use Qv (.ref ac) s3.heap.objs.size)
        { s3 with heap := h₁, toks := s3.toks + ([] : List (Str × Value)).length } := by
      refine zc (fun mm s' => ∃ i rho' st' H' sg', L2.Inv (cxG X N scope cl s3.heap.objs.size s3 H3 fp (X.pn ++ pins)) [] sg' H' s' ∧ tn i s'.heap ∧ (∀ b ∈ fp, H' b = none) ∧ g.Keep r3 H3 rho' H' ∧ g.Sto rho' st' H' ∧ g.Env rho' H' (bj nl fv env) sg' ∧ mm = xs.length - i ∧ i ≤ xs.length ∧
        compLoop xs p st1.length body (xs.drop i) st' = .ok () stf) ?_ xs.length ⟨0, r3, _, H3, sg0, J0, tn0, fun b hb => (hfp b hb).1.1, .refl _ _, S3, n0, by simp, Nat.zero_le _, hloop⟩
      rintro mm s' ⟨i, rho', st', H', sg', I', tn', fr', kk, S', n', rfl, hi, hl'⟩
      have hst : stays st' p xs = true := by
        cases z : stays st' p xs with
        | true => rfl
        | false =>
          exfalso
          cases e : xs.drop i with
          | nil => rw [e] at hl'; simp only [compLoop, z] at hl'; cases hl'
          | cons d t => rw [e] at hl'; simp only [compLoop, z] at hl'; cases hl'
      obtain ⟨jstop, jgo⟩ := hJ rho' st' H' (k13.trans kk) S' hst
      by_cases hlt : i < xs.length
      · obtain ⟨hgo, hy⟩ := jgo i xs[i] (List.getElem?_eq_getElem hlt)
        rw [List.drop_eq_getElem_cons hlt] at hl'
        simp only [compLoop, hst, if_true] at hl'
        refine thn (T.item (cxG X N scope cl s3.heap.objs.size s3 H3 fp (X.pn ++ pins)) rfl rfl rfl hc i [] s' sg' H' _ I' (bfp fr') tn' hgo) fun r s4 ⟨u, hr4, h4⟩ => ?_
        subst hr4
        refine thn h4 fun _ s5 ⟨x5, H5, I5, r5, y5, tn5, fr5⟩ => ?_
        obtain ⟨e5, rx5⟩ := hy x5 H5 y5
        subst e5
        have I5' := I5.pinned (bfp fr5) (T.obj _ _ tn5)
        obtain ⟨env', es⟩ : ∃ env', store tgs one xs[i] (bj nl fv env) = some env' := by
          cases es : store tgs one xs[i] (bj nl fv env) with
          | some env' => exact ⟨env', rfl⟩
          | none =>
            exfalso
            have : body xs[i] st' = .bad := by rw [← hB]; unfold Mq; rw [es]
            rw [this] at hl'; cases hl'
        have hbody : body xs[i] st' = (Bj g.tab g.call ifs' env' st').bind fun b st => if b then (Aa g.tab g.call elt' env' st).bind fun y st => .ok (some y) st else .ok none st := by
          rw [← hB]; unfold Mq; rw [es]
        rw [hbody] at hl'
        obtain ⟨hel, hhi⟩ := Qq es htg
        refine wpAny_mono (hg s3.heap.objs.size s3 H3 fp (X.pn ++ pins) _ s5 sg' H5 x5 u (fun sg6 H6 => H6 = H5 ∧ g.Env rho' H6 env' sg6) I5' r5 (jv (g := g) es rx5 n' fun sg6 n6 => ⟨rfl, n6⟩)) (fun _ s6 h6 => ?_) (fun _ _ z => z.elim)
        obtain ⟨sg6, H6, I6, e6, n6⟩ := h6
        subst e6
        obtain ⟨b, st2, eb, hl'⟩ : ∃ b st2, Bj g.tab g.call ifs' env' st' = .ok b st2 ∧ (match (if b then (Aa g.tab g.call elt' env' st2).bind fun y st => .ok (some y) st else .ok none st2 : Res (Option D)) with
            | .ok (some y) st' => (match st'[st1.length]? with
              | some (.lst ys) => if ys.length < sizeLine then compLoop xs p st1.length body (xs.drop (i + 1)) (st'.set st1.length (.lst (ys ++ [y]))) else .bad
              | _ => .bad)
            | .ok none st' => compLoop xs p st1.length body (xs.drop (i + 1)) st'
            | _ => .bad) = Res.ok () stf := by
          cases eb : Bj g.tab g.call ifs' env' st' with
          | ok b st2 => rw [eb] at hl'; exact ⟨b, st2, rfl, hl'⟩
          | exc c st2 => rw [eb] at hl'; cases hl'
          | bad => rw [eb] at hl'; cases hl'
        refine wpAny_mono (ht s3.heap.objs.size s3 H3 fp (X.pn ++ pins) _ s6 sg6 H6 (fun b' H7 => b' = b ∧ ∃ rho7, g.Keep rho' H6 rho7 H7 ∧ g.Sto rho7 st2 H7) I6 ⟨rho', st', env', S', n6, ?_⟩) (fun ok s7 h7 => ?_) (fun _ _ z => z.elim)
        · show RQ (g.with fun _ _ _ => False) (Bj g.tab g.call ifs' env' st') _ rho' H6
          rw [eb]
          exact fun H7 rho7 k7 s7 => ⟨rfl, rho7, k7, s7⟩
        obtain ⟨H7, I7, e7, rho7, k7, S7⟩ := h7
        subst e7
        have n7 : g.Env rho7 H7 env' sg6 := n6.mono k7
        have done : ∀ (rho9 : List Addr) (st9 : Sto) (H9 : Hp) (s9 : Shared), L2.Inv (cxG X N scope cl s3.heap.objs.size s3 H3 fp (X.pn ++ pins)) ([] ++ Gk fp s5.heap) sg6 H9 s9 → g.Keep rho7 H7 rho9 H9 → g.Sto rho9 st9 H9 → compLoop xs p st1.length body (xs.drop (i + 1)) st9 = .ok () stf →
            ∃ m, m < xs.length - i ∧ ∃ i rho' st' H' sg', L2.Inv (cxG X N scope cl s3.heap.objs.size s3 H3 fp (X.pn ++ pins)) [] sg' H' s9 ∧ tn i s9.heap ∧ (∀ b ∈ fp, H' b = none) ∧ g.Keep r3 H3 rho' H' ∧ g.Sto rho' st' H' ∧ g.Env rho' H' (bj nl fv env) sg' ∧ m = xs.length - i ∧ i ≤ xs.length ∧ compLoop xs p st1.length body (xs.drop i) st' = .ok () stf := by
          intro rho9 st9 H9 s9 I9 k9 S9 hl9
          refine ⟨xs.length - (i + 1), by omega, i + 1, rho9, st9, H9, sg6, I9.unpinned, T.keep _ _ _ tn5 fun b hb o e => (I9.pin (b, o) (List.mem_append_right _ (List.mem_append_right _ (gm hb e)))).1, fun b hb => ?_, (kk.trans k7).trans k9, S9, Qs rfl hel hhi (n7.mono k9), rfl, hlt, hl9⟩
          obtain ⟨o, e, d⟩ := T.obj _ _ tn5 b hb
          exact (I9.pin (b, o) (List.mem_append_right _ (List.mem_append_right _ (gm hb e)))).2.1
        cases ok with
        | false =>
          rw [if_neg Bool.false_ne_true]
          simp only [Bool.false_eq_true, if_false] at hl'
          exact done rho7 st2 H7 s7 I7 (.refl _ _) S7 hl'
        | true =>
          rw [if_pos rfl]
          simp only [if_true] at hl'
          obtain ⟨y, st4, ee, hl'⟩ : ∃ y st4, Aa g.tab g.call elt' env' st2 = .ok y st4 ∧ (match st4[st1.length]? with
              | some (.lst ys) => if ys.length < sizeLine then compLoop xs p st1.length body (xs.drop (i + 1)) (st4.set st1.length (.lst (ys ++ [y]))) else .bad
              | _ => .bad) = Res.ok () stf := by
            cases ee : Aa g.tab g.call elt' env' st2 with
            | ok y st4 => rw [ee] at hl'; exact ⟨y, st4, rfl, hl'⟩
            | exc c st4 => rw [ee] at hl'; cases hl'
            | bad => rw [ee] at hl'; cases hl'
          obtain ⟨ys, ey, hys, hl'⟩ : ∃ ys, st4[st1.length]? = some (.lst ys) ∧ ys.length < sizeLine ∧ compLoop xs p st1.length body (xs.drop (i + 1)) (st4.set st1.length (.lst (ys ++ [y]))) = .ok () stf := by
            split at hl'
            · rename_i ys ey
              split at hl'
              · rename_i hys; exact ⟨ys, ey, hys, hl'⟩
              · cases hl'
            · cases hl'
          refine wpAny_mono (he s3.heap.objs.size s3 H3 fp (X.pn ++ pins) _ s7 sg6 H7 (fun w H8 => ∃ rho8, g.Keep rho7 H7 rho8 H8 ∧ g.Sto rho8 st4 H8 ∧ g.Rep rho8 H8 y w) I7 ⟨rho7, st2, env', S7, n7, ?_⟩) (fun yv s8 h8 => ?_) (fun _ _ z => z.elim)
          · show RQ (g.with fun _ _ _ => False) (Aa g.tab g.call elt' env' st2) _ rho7 H7
            rw [ee]
            exact fun w H8 rho8 k8 s8 r8 => ⟨rho8, k8, s8, r8⟩
          obtain ⟨w, H8, I8, rw8, rho8, k8, S8, rp8⟩ := h8
          obtain ⟨a8, us, hr8, hH8, rl8⟩ := fm S8 ey
          rw [k8.at (k7.at (kk.at acc_at))] at hr8; cases hr8
          have hrep : g.RepL rho8 H8 (ys ++ [y]) (us ++ [w]) := rl8.append (by simp only [RepL]; exact ⟨w, [], rfl, rp8, rfl⟩)
          obtain ⟨k9, S9⟩ := S8.wrote (k8.at (k7.at (kk.at acc_at))) ey hH8 hrep
          refine wpAny_mono (Pu (X := cxG X N scope cl s3.heap.objs.size s3 H3 fp (X.pn ++ pins)) _ s8 _ H8 (.ref ac) [w] (.ref ac) [yv] (fun _ H9 => H9 = upd H8 ac (.lst (us ++ [w]))) I8 rfl (.cons rw8 .nil) ⟨ac, us, w, rfl, rfl, hH8, by rw [← rl8.length]; exact hys, rfl⟩) (fun _ s9 h9 => ?_) (fun _ _ z => z.elim)
          obtain ⟨_, H9, I9, _, e9⟩ := h9
          subst e9
          exact done rho8 _ _ s9 I9 (k8.trans k9) S9 hl'
      · have ei : i = xs.length := by omega
        subst ei
        refine thn (T.done (cxG X N scope cl s3.heap.objs.size s3 H3 fp (X.pn ++ pins)) rfl rfl rfl hc xs.length [] s' sg' H' _ I' (bfp fr') tn' jstop) fun r s4 ⟨hr4, I4⟩ => ?_
        subst hr4
        rw [List.drop_eq_nil_of_le (Nat.le_refl _)] at hl'
        simp only [compLoop, hst, if_true] at hl'
        cases hl'
        obtain ⟨m4, hn4, _⟩ := I4.loc
        refine hfin ac s3.heap.objs.size H' s4 ⟨m4, hn4⟩ (I3.fpOk (Nat.le_refl _) I4.free) (fun h' sb => ?_) (q1 (.ref ac) H' rho' ((k1.trans k13).trans kk) S' (bf.mpr ⟨ac, kk.at acc_at, rfl⟩))
        have u4 : Un (frs X.stack) fp H3 H' s3.heap s4.heap := I4.base
        have hL : ∀ b o, s3.heap.get? b = some o → b ≠ s3.heap.objs.size := fun b o e => Nat.ne_of_lt (Heap.lt_size e)
        have fL : H' s3.heap.objs.size = none := I4.free
        refine I3.call' (s' := { s4 with heap := h' }) (ch := fp) I4.os ⟨fun b o e n hb hx => (sb.2 b (hL b o e)).trans (u4.keep b o e n hb hx), fun b o e n hb hx => ?_, u4.free, fun b o e hx => ?_, u4.tups, u4.frzs, u4.tbls⟩ (fun b o e => ?_) I4.bare fun b hb => ?_
        · obtain ⟨sl, e1⟩ := u4.slot b o e n hb hx
          exact ⟨sl, (sb.2 b (hL b o e)).trans e1⟩
        · obtain ⟨o', e1⟩ := u4.there b o e hx
          exact ⟨o', (sb.2 b (hL b o e)).trans e1⟩
        · refine (I4.hok b o e).stay (fun c u hc' g' => (sb.2 c ?_).trans g') (fun _ h => h) fun _ _ h => h
          intro z
          rcases hc' with rfl | hc'
          · rw [z, fL] at e; cases e
          · rw [z, fL] at hc'; cases hc'
        · obtain ⟨f, _⟩ := hfp b hb
          exact ⟨f.2.2.2.1, f.2.1, f.2.2.2.2.1, f.2.2.2.2.2⟩
    exact codeAny_compStart_list loop (T.self _ 0 _ _ _ tn0 loop)
  · refine hwi rho st env sg H _ S n ?_
    revert q
    cases Aa g.tab g.call it' env st with
    | bad => exact fun q => q
    | exc c st1 => exact fun q => q
    | ok d st1 =>
      simp only [ay]
      intro q
      cases ei : Bi k st1 d with
      | none => rw [ei] at q; exact q.elim
      | some xp =>
        obtain ⟨xs, p⟩ := xp
        rw [ei] at q
        exact ⟨xs, p, ei, fun H1 r1 J k1 s1 hJ => ⟨r1, st1, xs, p, k1, s1, hJ, RQ.mono k1 q fun _ _ z => z⟩⟩
theorem Gd (hK : X.K = g.K) (hc : X.calm = true) (hkind : scope.kind = .function) (hcell : ∀ y ∈ scope.names, y.2 ≠ .cell)
    (hnames : ∀ y ∈ scope.names, y.2 = .local → scope.names.lookup y.1 = some .local) (hclos : closureFor scope X.env = pure cl) (C : Clos X scope cl) (hN : N.length = nl + fv.length)
    (hfv : ∀ j k, fv[j]? = some k → ∃ x c, N[nl + j]? = some x ∧ X.N[k]? = some x ∧ cl.lookup x = some c ∧ (X.env.scope.names.lookup x = some .cell ∨ X.env.scope.names.lookup x = some .free) ∧ ((relabel scope X.env).names.lookup x = some .cell ∨ (relabel scope X.env).names.lookup x = some .free))
    (htg : ∀ i ∈ tgs, i < nl) (hi : SdI g X target iter k it') (hg : ∀ L s0 H0 fp pn, PG (cxG X N scope cl L s0 H0 fp pn) target (tg g.K tgs one))
    (ht : ∀ L s0 H0 fp pn, PTs (cxG X N scope cl L s0 H0 fp pn) ifs (Ih (g.with fun _ _ _ => False) ifs')) (he : ∀ L s0 H0 fp pn, Sd (g.with fun _ _ _ => False) (cxG X N scope cl L s0 H0 fp pn) elt elt')
    (hs : ∀ x, foldedSetIterable iter X.env x = pure x := by intro _; rfl) :
    Sd g X (.ListComp elt [⟨target, iter, ifs, 0⟩] scope pos) (.comp k one nl tgs fv it' ifs' elt') := by
  intro pins s sg H Q I q
  rw [eval_ListComp]
  exact qt hK hc hkind hcell hnames hclos C hN hfv htg hi hg ht he hs I q fun ac C H' s4 ⟨m, hn⟩ _ hI hq => ⟨m, hn, fun h' sb => ⟨.ref ac, H', hI h' sb, rfl, hq⟩⟩
end DD
namespace DD
open PySem PySem.Spec L2
open PyProof.Rows hiding St RelV
variable {g : G} {X : Cx} {pos : Pos} {F : Nat}
def Its (z : Str) : It := ⟨fun i _ => i < z.cps.size, fun i H x H' => H' = H ∧ ∃ c, z.cps[i]? = some c ∧ x = .str ⟨#[c]⟩, fun i _ => z.cps.size ≤ i⟩
theorem ze {P : Program} {w : World} {K : PySem.W.Frag} {tg : Expr} (it : Addr) (z : Str) (t : Tok) (nm : String) (hnm : ["enumerate", "zip", "dict_itemiterator", "dict_reverseitemiterator", "odict_iterator", "itertools.zip_longest", "itertools.pairwise"].contains nm = false)
    (W : ∀ A' : Around, A'.handled = none → Walks P w A' it [it] [it] z.cps.size (SignAt z) (fun i h => h.IsStrIter it nm z t i))
    (hself : ∀ (A : Around) (i : Nat) (s : Shared) (Q : Value → Shared → Prop) (E : Value → Shared → Prop), s.heap.IsStrIter it nm z t i → Q (.ref it) s → wpAny (model P w) A (pyIter (.ref it)) Q E s) : Turn P w K tg (Its z) [it] it (fun i h => i ≤ z.cps.size ∧ h.IsStrIter it nm z t i) where
  mem := by simp
  obj := fun i h st b hb => by
    have e : b = it := by simpa using hb
    subst e
    obtain ⟨_, o, e, c, d⟩ := st
    exact ⟨o, e, fun v z => by rw [d] at z; cases z⟩
  keep := fun i h h' st k => let ⟨hi, o, ho, r⟩ := st; ⟨hi, o, k it (by simp) o ho, r⟩
  item := by
    intro X hP hw hK hc i pins s sg H E I hf st hg
    subst hP hw hK
    have hg : i < z.cps.size := hg
    obtain ⟨f0, f1, f2, f3, f4, f5⟩ := hf it (by simp)
    refine (W X.A (I.ok.hd hc)).item i s _ _ hg st.2 fun v h' tk hv st' kk => ?_
    obtain ⟨c, u, hcv, rfl⟩ := hv
    have I1 : Inv X pins sg H { s with heap := h', toks := tk } := I.turned (fun b o hb e => kk b o (by simpa using hb) e) f0 f1 f3 f4 f5
    obtain ⟨o, e, cc, d⟩ := id st'
    exact ⟨_, rfl, Jg (s := { s with heap := h', toks := tk }) (n := nm) e cc d hnm ⟨.str ⟨#[c]⟩, H, I1, ⟨u, rfl⟩, ⟨rfl, c, hcv, rfl⟩, ⟨hg, st'⟩, fun b hb => (hf b hb).1⟩⟩
  done := by
    intro X hP hw hK hc i pins s sg H E I hf st hg
    subst hP hw hK
    have hg : z.cps.size ≤ i := hg
    have hi : i = z.cps.size := Nat.le_antisymm st.1 hg
    subst hi
    obtain ⟨f0, f1, f2, f3, f4, f5⟩ := hf it (by simp)
    exact (W X.A (I.ok.hd hc)).done s _ _ st.2 fun h' tk kk => ⟨rfl, I.turned (fun b o hb e => kk b o (by simpa using hb) e) f0 f1 f3 f4 f5⟩
  self := fun A i s Q E st h => hself A i s Q E st.2 h
def Ze (tl : TE) : TI := fun sg H R => tl sg H fun x H1 => ∃ z, x = .str z ∧ R (Its z) H1
theorem zf {tg l : Expr} {tl : TE} (hl : PE X l tl) : PI X tg l (Ze tl) := by
  intro pins s sg H R I h
  refine thn (hl pins s sg H _ I h) fun v s1 ⟨x, H1, I1, r1, q1⟩ => ?_
  obtain ⟨z, rfl, q⟩ := q1
  obtain ⟨t, rfl⟩ := (show ∃ t, v = Value.str z t from r1)
  have fin : ∀ (o : Obj) (nm : String), o.cls = .type nm → o.data = .fields #[.str z t, .int 0 0] → ["enumerate", "zip", "dict_itemiterator", "dict_reverseitemiterator", "odict_iterator", "itertools.zip_longest", "itertools.pairwise"].contains nm = false → o.isFreed = false →
      (∀ A' : Around, A'.handled = none → Walks X.prog X.w A' s1.heap.objs.size [s1.heap.objs.size] [s1.heap.objs.size] z.cps.size (SignAt z) (fun i h => h.IsStrIter s1.heap.objs.size nm z t i)) →
      (∀ (A : Around) (i : Nat) (s : Shared) (Q : Value → Shared → Prop) (E : Value → Shared → Prop), s.heap.IsStrIter s1.heap.objs.size nm z t i → Q (.ref s1.heap.objs.size) s → wpAny (model X.prog X.w) A (pyIter (.ref s1.heap.objs.size)) Q E s) →
      PIE X pins sg tg R (.ref s1.heap.objs.size) { s1 with heap := s1.heap.push o } := by
    intro o nm hc hd hnm hfr W hself
    refine ⟨s1.heap.objs.size, [s1.heap.objs.size], _, Its z, H1, rfl, I1.kept (t' := s1.toks) fun b o e => Heap.get?_push_of_some _ e, ze _ z t nm hnm W hself, ⟨Nat.zero_le _, o, Heap.get?_push_size _ hfr, hc, hd⟩, fun b hb => ?_, q⟩
    have e : b = s1.heap.objs.size := by simpa using hb
    subst e
    exact I1.fpOk (Nat.le_refl _) (I1.hok.fresh (Nat.le_refl _))
  cases ha : z.cps.all (· < 128)
  · exact wpAny_pyIter_wide ha (fin _ "str_iterator" rfl rfl (by decide) rfl (fun A' hA => Walks.strWide hA _ z t) fun A i s Q E st h => wpAny_pyIter_striter_wide st h)
  · exact wpAny_pyIter_ascii ha (fin _ "str_ascii_iterator" rfl rfl (by decide) rfl (fun A' hA => Walks.strAscii hA _ z t) fun A i s Q E st h => wpAny_pyIter_striter_ascii st h)
theorem Zf {target iter : Expr} {it' : E} (h : Sd g X iter it') : SdI g X target iter 3 it' := by
 refine ⟨_, zf h, fun rho st env sg H R s n q => ?_⟩
 refine ⟨rho, st, env, s, n, ?_⟩
 revert q
 cases Aa g.tab g.call it' env st with
 | bad => exact fun q => q
 | exc c st1 => exact fun q => q
 | ok d st1 =>
  rintro ⟨xs, p, e, q⟩ v H1 r1 k1 s1 rv
  cases d with
  | str z =>
   simp only [Bi] at e
   split at e
   · cases e
     refine ⟨z, Bx.mp rv, q H1 r1 _ k1 s1 ?_⟩
     intro rho st H kk s hst
     refine ⟨by show z.cps.size ≤ _; simp, fun i d hd => ?_⟩
     rw [List.getElem?_map] at hd
     cases ec : z.cps.toList[i]? with
     | none => rw [ec] at hd; cases hd
     | some c =>
      rw [ec] at hd; cases hd
      have hi : i < z.cps.size := by simpa using (List.getElem?_eq_some_iff.mp ec).1
      refine ⟨hi, fun x H' y => ⟨y.1, ?_⟩⟩
      obtain ⟨_, c2, e2, rfl⟩ := y
      have : c2 = c := by
       have e3 : z.cps.toList[i]? = some c2 := by simpa using e2
       rw [ec] at e3; cases e3; rfl
      rw [this]
      exact Bx.mpr rfl
   · cases e
  | _ => cases e
end DD
namespace DD
open PySem PySem.Spec L2
variable {g : G} {X : Cx} {pos apos cpos : Pos} {F : Nat} {a b c : Expr} {a' b' c' : E}
theorem Ii : ∀ {kvs : List (D × D)} {ws : List (Key × V)}, Aq g.K rho H kvs ws → kvs.length = ws.length
 | [], ws, h => by simp only [Aq] at h; subst h; rfl
 | (x, d) :: r, ws, h => by
  simp only [Aq] at h
  obtain ⟨k, v, t, rfl, _, _, q⟩ := h
  simp [Ii q]
theorem Qt {rho : List Addr} {H : Hp} {a : D} {k : Key} (ha : kD a = some k) : ∀ {kvs : List (D × D)} {ws : List (Key × V)}, Aq g.K rho H kvs ws → (kvs.any fun p => decide (p.1 = a)) = ws.any fun p => decide (p.1 = k)
 | [], ws, h => by simp only [Aq] at h; subst h; rfl
 | (x, d) :: r, ws, h => by
  simp only [Aq] at h
  obtain ⟨k', v, t, rfl, hk, _, q⟩ := h
  simp only [List.any_cons, Qt ha q]
  congr 1
  by_cases e : x = a
  · subst e; rw [ha] at hk; cases hk; simp
  · have : k' ≠ k := fun z => e (jt (by rw [hk, z]) ha)
    simp [e, this]
theorem qu {rho : List Addr} {H : Hp} {a y : D} {k : Key} {v : V} (ha : kD a = some k) (ry : g.Rep rho H y v) : ∀ {kvs : List (D × D)} {ws : List (Key × V)}, Aq g.K rho H kvs ws → Aq g.K rho H (kvs.map fun p => if p.1 = a then (p.1, y) else p) (ws.map fun p => if p.1 = k then (p.1, v) else p)
 | [], ws, h => by simp only [Aq] at h; subst h; simp [Aq]
 | (x, d) :: r, ws, h => by
  simp only [Aq] at h
  obtain ⟨k', v', t, rfl, hk, rd, q⟩ := h
  have ih := qu ha ry q
  by_cases e : x = a
  · subst e; rw [ha] at hk; cases hk
    simp only [List.map_cons, if_true, Aq]
    exact ⟨k, v, _, rfl, ha, ry, ih⟩
  · have ne : k' ≠ k := fun z => e (jt (by rw [hk, z]) ha)
    simp only [List.map_cons, if_neg e, if_neg ne, Aq]
    exact ⟨k', v', _, rfl, hk, rd, ih⟩
theorem Qu {rho : List Addr} {H : Hp} {a y : D} {k : Key} {v : V} (ha : kD a = some k) (ry : g.Rep rho H y v) : ∀ {kvs : List (D × D)} {ws : List (Key × V)}, Aq g.K rho H kvs ws → Aq g.K rho H (kvs ++ [(a, y)]) (ws ++ [(k, v)])
 | [], ws, h => by simp only [Aq] at h; subst h; simp only [List.nil_append, Aq]; exact ⟨k, v, [], rfl, ha, ry, rfl⟩
 | (x, d) :: r, ws, h => by
  simp only [Aq] at h
  obtain ⟨k', v', t, rfl, hk, rd, q⟩ := h
  simp only [List.cons_append, Aq]
  exact ⟨k', v', _, rfl, hk, rd, Qu ha ry q⟩
theorem Ms {rho : List Addr} {H : Hp} {a y : D} {k : Key} {v : V} (ha : kD a = some k) (ry : g.Rep rho H y v) {kvs : List (D × D)} {ws : List (Key × V)} (h : Aq g.K rho H kvs ws) : Aq g.K rho H (bx kvs a y) (putK ws k v) := by
 unfold bx putK
 rw [Qt ha h]
 split
 · exact qu ha ry h
 · exact Qu ha ry h
theorem qv : ∀ {more : List (D × D)} {ms : List (Key × V)} {kvs : List (D × D)} {ws : List (Key × V)}, Aq g.K rho H more ms → Aq g.K rho H kvs ws → Aq g.K rho H (cu kvs more) (Gp ws ms)
 | [], ms, kvs, ws, h, q => by simp only [Aq] at h; subst h; exact q
 | (x, d) :: r, ms, kvs, ws, h, q => by
  simp only [Aq] at h
  obtain ⟨k, v, t, rfl, hk, rd, h2⟩ := h
  show Aq g.K rho H (cu (bx kvs x d) r) (Gp (putK ws k v) t)
  exact qv h2 (Ms hk rd q)
theorem Mu (s : g.Sto rho st H) (hr : rho[n]? = some p) (he : st[n]? = some (.dct kvs)) (hH : H p = some (.dK ws)) (h2 : Aq g.K rho H kvs2 ws2) :
    g.Keep rho H rho (upd H p (.dK ws2)) ∧ g.Sto rho (st.set n (.dct kvs2)) (upd H p (.dK ws2)) := s.wroteC hr he rfl hH ⟨fun _ => nofun, fun _ _ => nofun⟩ fun H3 eH kk => ⟨ws2, eH, h2.mono kk⟩
theorem zg {pins : List (Addr × Obj)} {sg : L2.St} {H : Hp} {s : Shared} {A : Around} {E : Value → Shared → Prop} {p : Addr} {kvs : List (Key × V)} {k : Key} {v : V} {u r : Value} {Q : Unit → Shared → Prop} (I : Inv X pins sg H s) (e : H p = some (.dK kvs)) (l : kvs.length < sizeLine) (ry : RelV (kV k) u) (rv : RelV v r)
    (h : ∀ s', Inv X pins sg (upd H p (.dK (putK kvs k v))) s' → Q () s') : wpAny (model X.prog X.w) A (dictSet p u r) Q E s := by
  obtain ⟨z, hd, vs, rel, dd⟩ := jl I.hok e
  have hz : vs.length ≤ sizeLine := by rw [← rel.length]; exact z
  have hl : (putK kvs k v).length ≤ sizeLine := by have := Jk kvs k v; omega
  refine wpAny_dictSet_pairs (hsz := hz) (Fy ry) dd fun h' dd' hs => h _ ?_
  have he : ∃ q, h'.get? p = some q := let ⟨q, _, _, hq, _⟩ := dd'; ⟨q, hq⟩
  exact Jl I (by rw [e]; exact True.intro) hs he (md hl hd (rel.put k rv) dd')
theorem Zg (hm : m = .get ∨ m = .upd) (h : rdy m st d = true) : ∃ n kvs, d = .loc n ∧ Az st n = some kvs := by
 cases d with
 | loc n =>
  have h : (Az st n).isSome = true := by rcases hm with rfl | rfl <;> exact h
  cases e : Az st n with
  | none => rw [e] at h; cases h
  | some kvs => exact ⟨n, kvs, rfl, e⟩
 | _ => rcases hm with rfl | rfl <;> cases h
def zh : V → List V → Hp → VK → Prop := fun x vs H Q => ∃ p o kvs more, x = .ref p ∧ vs = [.ref o] ∧ p ≠ o ∧ H p = some (.dK kvs) ∧ H o = some (.dK more) ∧ kvs.length + more.length ≤ sizeLine ∧ Q .non (upd H p (.dK (Gp kvs more)))
theorem Zh : MtR X "dict.update" zh := by
 intro pins s sg H x vs v us Q I rx rv h
 obtain ⟨p, o, kvs, more, rfl, rfl, hne, hp, ho, hz, q⟩ := h
 cases rx
 obtain ⟨u, rfl, ru⟩ := rv.one
 cases ru
 obtain ⟨z, hd, ws, rel, dd⟩ := jl I.hok hp
 obtain ⟨z2, hd2, ms, rel2, dd2⟩ := jl I.hok ho
 refine call_meetsIn PySem.F.slot_dict_update dd.typeIs PySem.F.entry_dict_update (PySem.F.args_dict_update_2 _ _) (meets_dict_update (Ck X.prog X.w) p o hne hd2) ⟨ws, ms, dd, dd2, by rw [← rel.length, ← rel2.length]; exact hz, fun h' dd' _ hs => ⟨.non, _, ?_, rfl, q⟩⟩
 have he : ∃ q, h'.get? p = some q := let ⟨q, _, _, hq, _⟩ := dd'; ⟨q, hq⟩
 exact Jl (t' := s.toks) I (by rw [hp]; exact True.intro) hs he (md (Nat.le_trans (Pz more kvs) hz) hd (rel2.merge rel) dd')
theorem qw (ho : Sd g X o o') (hv : Sd g X v v') (hbase : attributeBase o "update" X.env (eval o X.env) = eval o X.env := by rfl)
    (hfew : ((backTo cpos (starEach [v] X.env)).all (fun x => !x.1) && (backToKw cpos (keywordEach [] X.env)).all (fun x => x.1.isSome) && decide ([v].length + ([] : List Keyword).length + (if ([] : List Keyword).isEmpty then 0 else 1) < 30)) = true := by rfl)
    (hline : (apos.endLine == cpos.line) = true := by rfl) (hs : starEach [v] X.env = (false, eval v X.env) :: starEach [] X.env := by rfl) : Sd g X (.Call (.Attribute o "update" apos) [v] [] cpos) (.mt .upd o' (.cons v' .nil)) :=
  Ay (Pt PySem.F.plainAttrs_dict PySem.F.slot_dict_update PySem.F.type_dict_update Zh ho (aa hv Ac hs) hbase hfew hline hs rfl) fun sg H Q q => by
    obtain ⟨rho, st, env, s, n, q⟩ := q
    simp only [Aa] at q
    refine step s n q fun d st1 x H1 r1 k1 s1 n1 rp q1 => ?_
    split at q1
    · rename_i hl
      obtain ⟨j, kvs, rfl, ed⟩ := Zg (.inr rfl) hl
      obtain ⟨p, ws, hr, _, hH, kv⟩ := gb s1 ed
      obtain ⟨p2, hr2, rfl⟩ := bf.mp rp
      rw [hr] at hr2; cases hr2
      refine ⟨.inr (.inr (.inl ⟨rfl, .inl ⟨ws, hH⟩⟩)), Fj s1 n1 q1 fun ds st2 vs H2 r2 k2 s2 n2 rps q2 => ?_⟩
      match ds, q2 with
      | [.loc m], q2 =>
        obtain ⟨w, rfl, rw1⟩ := Eu rps
        simp only [mtD] at q2
        split at q2
        · rename_i kvs2 more e1 e2
          split at q2
          · rename_i hz
            obtain ⟨p3, ws2, hr3, hc3, hH2, kv2⟩ := gb s2 e1
            rw [k2.at hr] at hr3; cases hr3
            obtain ⟨p4, ms, hr4, hc4, hH4, kv4⟩ := gb s2 e2
            obtain ⟨p5, hr5, rfl⟩ := bf.mp rw1
            rw [hr4] at hr5; cases hr5
            have hne : p ≠ p4 := fun z => hz.1 (s2.nd j m p _ _ (k2.at hr) (by rw [z]; exact hr4) hc3 hc4 rfl rfl)
            obtain ⟨k3, s3⟩ := Mu s2 (k2.at hr) hc3 hH2 (qv kv4 kv2)
            exact ⟨p, p4, ws2, ms, rfl, rfl, hne, hH2, hH4, by rw [← Ii kv2, ← Ii kv4]; exact hz.2, (show Al g rho H Q .non _ from q2) _ _ r2 ((k1.trans k2).trans k3) s3 (Dy.mpr rfl)⟩
          · exact q2.elim
        · exact q2.elim
      | [], q2 => exact q2.elim
      | [.non], q2 => exact q2.elim
      | [.bl _], q2 => exact q2.elim
      | [.int _], q2 => exact q2.elim
      | [.str _], q2 => exact q2.elim
      | [.tup _], q2 => exact q2.elim
      | _ :: _ :: _, q2 => exact (show False by revert q2; rename_i a b c; cases a <;> exact fun q => q.elim).elim
    · exact q1.elim
end DD
namespace DD
open PySem PySem.Spec L2
open PyProof.Rows hiding St RelV
variable {g : G} {X : Cx} {pos : Pos} {F : Nat}
def Mv (g : G) (tg : List Nat) (one : Bool) (Bs : Env) (ifs : Es) (kx vx : E) (d : D) (st : Sto) : Res (Option (D × D)) := match store tg one d Bs with
 | some env' => (Bj g.tab g.call ifs env' st).bind fun b st => if b then (Aa g.tab g.call kx env' st).bind fun k st => (Aa g.tab g.call vx env' st).bind fun y st => .ok (some (k, y)) st else .ok none st
 | none => .bad
theorem mw : ∀ {xs : List D} {st : Sto}, Bg all p n0 body xs st ≠ .exc c st'
 | [], st => by
  simp only [Bg]
  split <;> (intro h; cases h)
 | d :: r, st => by
  simp only [Bg]
  split
  · split
    · split
      · split
        · exact mw
        · intro h; cases h
      · intro h; cases h
    · exact mw
    · intro h; cases h
  · intro h; cases h
theorem zi (I : Nat → Shared → Prop)
    (turn : ∀ n s, I n s → wpAny (model prog w) A (pyNext it) (fun r s₁ => match r with
      | none => R (.ok .next) s₁
      | some v => wpAny (model prog w) A (letOwnedTupleGo target it v) (fun _ s₁ => wpAny (model prog w) A (assign target env v) (fun _ s₂ =>
          wpAny (model prog w) A (forIn ifs true fun c r => if r = true then do let ok ← isTrue c env (eval c env); pure (ForInStep.yield ok) else pure (ForInStep.yield r)) (fun ok s₃ =>
            if ok = true then wpAny (model prog w) A (eval kx env) (fun kv s₄ => wpAny (model prog w) A (eval vx env) (fun vv s₅ =>
              wpAny (model prog w) A (dictSet dd kv vv) (fun _ s₆ => ∃ m, m < n ∧ I m s₆) (notedBy (model prog w) A env fun e s' => R (.error e) s') s₅) (notedBy (model prog w) A env fun e s' => R (.error e) s') s₄) (notedBy (model prog w) A env fun e s' => R (.error e) s') s₃
            else ∃ m, m < n ∧ I m s₃) (notedBy (model prog w) A env fun e s' => R (.error e) s') s₂) (notedBy (model prog w) A env fun e s' => R (.error e) s') s₁) (notedBy (model prog w) A env fun e s' => R (.error e) s') s₁) (notedBy (model prog w) A env fun e s' => R (.error e) s') s)
    (n : Nat) (h : I n s) : codeAny (model prog w) A (.compLoop (.DictComp kx vx [⟨target, iter, ifs, 0⟩] scope pos) 0 it (.ref dd) env) R s := by
  refine codeAny_loop rfl I (fun n s hI => ?_) n h
  show wpAny _ A ((compTurn (.DictComp kx vx [⟨target, iter, ifs, 0⟩] scope pos) 0 it (.ref dd) env).onRaise (fun x => do noteFrame x env; theTreesLotGoes x)) _ _ s
  refine wpAny_noted ?_
  rw [compTurn_dict]
  refine wpAny_bind (wpAny_standAt (wpAny_bind (wpAny_mono (turn n s hI) (fun r s₁ h₁ => ?_) fun _ _ h' => h')))
  cases r with
  | none => exact wpAny_pure h₁
  | some v =>
    refine wpAny_bind (wpAny_mono h₁ (fun _ s₁ h₁ => ?_) fun _ _ h' => h')
    refine wpAny_bind (wpAny_mono h₁ (fun _ s₂ h₂ => wpAny_bind (wpAny_mono h₂ (fun ok s₃ h₃ => ?_) fun _ _ h' => h')) fun _ _ h' => h')
    cases ok with
    | false => exact wpAny_pure ⟨rfl, h₃⟩
    | true =>
      exact wpAny_bind (wpAny_bind (wpAny_mono h₃ (fun kv s₄ h₄ => wpAny_bind (wpAny_holding (wpAny_mono h₄ (fun vv s₅ h₅ => wpAny_bind (wpAny_standAt (wpAny_holding (wpAny_mono h₅ (fun _ s₆ h₆ => wpAny_pure ⟨rfl, h₆⟩) fun _ _ h' => h')))) fun _ _ h' => h'))) fun _ _ h' => h'))
theorem Ij {kx vx iter target : Expr} {ifs : List Expr} {N : List Str} {nl : Nat} {fv tgs : List Nat} {one : Bool} {k : Nat} {scope : Scope} {cl : List (Str × Addr)} {it' kx' vx' : E} {ifs' : Es} (hK : X.K = g.K) (hc : X.calm = true) (hkind : scope.kind = .function) (hcell : ∀ y ∈ scope.names, y.2 ≠ .cell)
    (hnames : ∀ y ∈ scope.names, y.2 = .local → scope.names.lookup y.1 = some .local) (hclos : closureFor scope X.env = pure cl) (C : Clos X scope cl) (hN : N.length = nl + fv.length)
    (hfv : ∀ j k, fv[j]? = some k → ∃ x c, N[nl + j]? = some x ∧ X.N[k]? = some x ∧ cl.lookup x = some c ∧ (X.env.scope.names.lookup x = some .cell ∨ X.env.scope.names.lookup x = some .free) ∧ ((relabel scope X.env).names.lookup x = some .cell ∨ (relabel scope X.env).names.lookup x = some .free))
    (htg : ∀ i ∈ tgs, i < nl) (hi : SdI g X target iter k it') (hg : ∀ L s0 H0 fp pn, PG (cxG X N scope cl L s0 H0 fp pn) target (tg g.K tgs one))
    (ht : ∀ L s0 H0 fp pn, PTs (cxG X N scope cl L s0 H0 fp pn) ifs (Ih (g.with fun _ _ _ => False) ifs')) (hkx : ∀ L s0 H0 fp pn, Sd (g.with fun _ _ _ => False) (cxG X N scope cl L s0 H0 fp pn) kx kx') (hvx : ∀ L s0 H0 fp pn, Sd (g.with fun _ _ _ => False) (cxG X N scope cl L s0 H0 fp pn) vx vx')
    (hs : ∀ x, foldedSetIterable iter X.env x = pure x := by intro _; rfl) :
    Sd g X (.DictComp kx vx [⟨target, iter, ifs, 0⟩] scope pos) (.dcomp k one nl tgs fv it' ifs' kx' vx') := by
  intro pins s sg H Q I q
  obtain ⟨rho, st, env, S, n, q⟩ := q
  obtain ⟨wi, hpi, hwi⟩ := hi
  generalize hB : Mv g tgs one (bj nl fv env) ifs' kx' vx' = body
  have q : RQ g ((Aa g.tab g.call it' env st).bind fun d st => match Bi k st d with
      | some (xs, p) => (Bg xs p st.length body xs (st ++ [.dct []])).bind fun _ st' => .ok (.loc st.length) st'
      | none => .bad) (Al g rho H Q) rho H := by
    rw [← hB]
    simp only [Aa] at q
    exact q
  rw [arm_eval_DictComp]
  refine wpAny_comprehension_free (use := none) rfl hs hclos hkind hnames ?_
  have hpi := hpi pins s sg H
    (fun J H1 => ∃ r1 st1 xs p, g.Keep rho H r1 H1 ∧ g.Sto r1 st1 H1 ∧ ItJ g J xs p r1 H1 ∧
      RQ g ((Bg xs p st1.length body xs (st1 ++ [.dct []])).bind fun _ st' => .ok (.loc st1.length) st') (Al g rho H Q) r1 H1) I ?_
  · refine thn hpi fun v s1 h1 => thn h1 fun itv s2 h2 => ?_
    obtain ⟨it, fp, tn, J, H1, rfl, I2, T, st2, f2, r1, st1, xs, p, k1, S1, hJ, q1⟩ := h2
    obtain ⟨stf, hloop, q1⟩ : ∃ stf, Bg xs p st1.length body xs (st1 ++ [.dct []]) = .ok () stf ∧ Al g rho H Q (.loc st1.length) stf := by
      revert q1
      cases e : Bg xs p st1.length body xs (st1 ++ [.dct []]) with
      | ok u stf => exact fun q => ⟨stf, rfl, q⟩
      | exc c st2 => exact absurd e mw
      | bad => exact fun q => q.elim
    refine wpAny_newObj_type ?_
    have I3 := I2.laid (a := s2.heap.objs.size) (o := .dK []) (h' := s2.heap.push { cls := .type "dict", data := .dict #[] }) (t' := s2.toks) (fun _ _ q => Heap.get?_push_of_some _ q) (Nat.le_refl _) (pz s2.heap I2.big)
    have hn3 := I2.fresh
    generalize hs3 : ({ s2 with heap := s2.heap.push { cls := .type "dict", data := .dict #[] } } : Shared) = s3
    have I3 : L2.Inv X pins sg (upd H1 s2.heap.objs.size (.dK [])) s3 := by rw [← hs3]; exact I3
    have hsz : s3.heap.objs.size = s2.heap.objs.size + 1 := by rw [← hs3]; exact Heap.size_push _ _
    have up3 : ∀ b o, s2.heap.get? b = some o → s3.heap.get? b = some o := fun b o e => by rw [← hs3]; exact Heap.get?_push_of_some _ e
    have hfp : ∀ b ∈ fp, Cy X pins (upd H1 s2.heap.objs.size (.dK [])) b ∧ b < s3.heap.objs.size := fun b hb => by
      obtain ⟨o, ho, _⟩ := T.obj _ _ st2 b hb
      have hlt := Heap.lt_size ho
      refine ⟨⟨?_, (f2 b hb).2⟩, by rw [hsz]; exact Nat.lt_succ_of_lt hlt⟩
      rw [Ax (Nat.ne_of_lt hlt)]
      exact (f2 b hb).1
    have k13 : g.Keep r1 H1 (r1 ++ [s2.heap.objs.size]) (upd H1 s2.heap.objs.size (.dK [])) := (S1.laid hn3 (o := .dK []) (c := .dct []) ⟨[], Cb, by simp [Aq]⟩).1
    have S3 : g.Sto (r1 ++ [s2.heap.objs.size]) (st1 ++ [.dct []]) (upd H1 s2.heap.objs.size (.dK [])) := (S1.laid hn3 (o := .dK []) (c := .dct []) ⟨[], Cb, by simp [Aq]⟩).2
    have acc_at : (r1 ++ [s2.heap.objs.size])[st1.length]? = some s2.heap.objs.size := by rw [← S1.len]; simp
    generalize hH3 : upd H1 s2.heap.objs.size (.dK []) = H3 at *
    generalize hac : s2.heap.objs.size = ac at *
    generalize hr3 : r1 ++ [ac] = r3 at *
    refine wpAny_newFunctionEnv hcell (by intro y hy; simp at hy) (fun h₁ hns₁ hsb₁ => ?_) hkind
    have hk1 : ∀ b o, s3.heap.get? b = some o → h₁.get? b = some o := fun b o e => hsb₁.extBut b o (Nat.ne_of_lt (Heap.lt_size e)) (Heap.get?_push_of_some _ e)
    have J0 := qp (N := N) (nl := nl) (fv := fv) (tk := s3.toks + ([] : List (Str × Value)).length) hkind C hN hfv I3 hfp hns₁ hk1
    have n0 := Qr (n.mono (k1.trans k13)) nl fv
    generalize hsg0 : (List.replicate nl none ++ fv.map fun k => (sg[k]?).join : L2.St) = sg0 at J0 n0
    have tn0 : tn 0 h₁ := T.keep _ _ _ st2 fun b _ o e => hk1 b o (up3 b o e)
    have bfp : ∀ {H' : Hp}, (∀ b ∈ fp, H' b = none) → ∀ b ∈ fp, Cy (cxG X N scope cl s3.heap.objs.size s3 H3 fp (X.pn ++ pins)) [] H' b := fun hn b hb => by
      obtain ⟨f, hlt⟩ := hfp b hb
      refine ⟨hn b hb, fun z => ?_, mq I3 f, .inl hb, fun y c h => f.2.2.2.2.1 y c (C.sub y c h), fun p hp => f.2.2.2.2.2 p (by rw [List.append_nil] at hp; exact hp)⟩
      have : s3.heap.objs.size < s3.heap.objs.size := by rw [z] at hlt; exact hlt
      exact Nat.lt_irrefl _ this
    have loop : codeAny (model X.prog X.w) X.A (.compLoop (.DictComp kx vx [⟨target, iter, ifs, 0⟩] scope pos) 0 (.ref it) (.ref ac) (Mp X scope cl s3.heap.objs.size))
        (compPost (model X.prog X.w) X.A X.xe none (EP X pins sg Q) (.ref ac) s3.heap.objs.size)
        { s3 with heap := h₁, toks := s3.toks + ([] : List (Str × Value)).length } := by
      refine zi (fun mm s' => ∃ i rho' st' H' sg', L2.Inv (cxG X N scope cl s3.heap.objs.size s3 H3 fp (X.pn ++ pins)) [] sg' H' s' ∧ tn i s'.heap ∧ (∀ b ∈ fp, H' b = none) ∧ g.Keep r3 H3 rho' H' ∧ g.Sto rho' st' H' ∧ g.Env rho' H' (bj nl fv env) sg' ∧ mm = xs.length - i ∧ i ≤ xs.length ∧
        Bg xs p st1.length body (xs.drop i) st' = .ok () stf) ?_ xs.length ⟨0, r3, _, H3, sg0, J0, tn0, fun b hb => (hfp b hb).1.1, .refl _ _, S3, n0, by simp, Nat.zero_le _, hloop⟩
      rintro mm s' ⟨i, rho', st', H', sg', I', tn', fr', kk, S', n', rfl, hi, hl'⟩
      have hst : stays st' p xs = true := by
        cases z : stays st' p xs with
        | true => rfl
        | false =>
          exfalso
          cases e : xs.drop i with
          | nil => rw [e] at hl'; simp only [Bg, z] at hl'; cases hl'
          | cons d t => rw [e] at hl'; simp only [Bg, z] at hl'; cases hl'
      obtain ⟨jstop, jgo⟩ := hJ rho' st' H' (k13.trans kk) S' hst
      by_cases hlt : i < xs.length
      · obtain ⟨hgo, hy⟩ := jgo i xs[i] (List.getElem?_eq_getElem hlt)
        rw [List.drop_eq_getElem_cons hlt] at hl'
        simp only [Bg, hst, if_true] at hl'
        refine thn (T.item (cxG X N scope cl s3.heap.objs.size s3 H3 fp (X.pn ++ pins)) rfl rfl rfl hc i [] s' sg' H' _ I' (bfp fr') tn' hgo) fun r s4 ⟨u, hr4, h4⟩ => ?_
        subst hr4
        refine thn h4 fun _ s5 ⟨x5, H5, I5, r5, y5, tn5, fr5⟩ => ?_
        obtain ⟨e5, rx5⟩ := hy x5 H5 y5
        subst e5
        have I5' := I5.pinned (bfp fr5) (T.obj _ _ tn5)
        obtain ⟨env', es⟩ : ∃ env', store tgs one xs[i] (bj nl fv env) = some env' := by
          cases es : store tgs one xs[i] (bj nl fv env) with
          | some env' => exact ⟨env', rfl⟩
          | none =>
            exfalso
            have : body xs[i] st' = .bad := by rw [← hB]; unfold Mv; rw [es]
            rw [this] at hl'; cases hl'
        have hbody : body xs[i] st' = (Bj g.tab g.call ifs' env' st').bind fun b st => if b then (Aa g.tab g.call kx' env' st).bind fun k st => (Aa g.tab g.call vx' env' st).bind fun y st => .ok (some (k, y)) st else .ok none st := by
          rw [← hB]; unfold Mv; rw [es]
        rw [hbody] at hl'
        obtain ⟨hel, hhi⟩ := Qq es htg
        refine wpAny_mono (hg s3.heap.objs.size s3 H3 fp (X.pn ++ pins) _ s5 sg' H5 x5 u (fun sg6 H6 => H6 = H5 ∧ g.Env rho' H6 env' sg6) I5' r5 (jv (g := g) es rx5 n' fun sg6 n6 => ⟨rfl, n6⟩)) (fun _ s6 h6 => ?_) (fun _ _ z => z.elim)
        obtain ⟨sg6, H6, I6, e6, n6⟩ := h6
        subst e6
        obtain ⟨b, st2, eb, hl'⟩ : ∃ b st2, Bj g.tab g.call ifs' env' st' = .ok b st2 ∧ (match (if b then (Aa g.tab g.call kx' env' st2).bind fun k st => (Aa g.tab g.call vx' env' st).bind fun y st => .ok (some (k, y)) st else .ok none st2 : Res (Option (D × D))) with
            | .ok (some (k, y)) st' => (match st'[st1.length]? with
              | some (.dct kvs) => if kvs.length < sizeLine ∧ Bv k = true then Bg xs p st1.length body (xs.drop (i + 1)) (st'.set st1.length (.dct (bx kvs k y))) else .bad
              | _ => .bad)
            | .ok none st' => Bg xs p st1.length body (xs.drop (i + 1)) st'
            | _ => .bad) = Res.ok () stf := by
          cases eb : Bj g.tab g.call ifs' env' st' with
          | ok b st2 => rw [eb] at hl'; exact ⟨b, st2, rfl, hl'⟩
          | exc c st2 => rw [eb] at hl'; cases hl'
          | bad => rw [eb] at hl'; cases hl'
        refine wpAny_mono (ht s3.heap.objs.size s3 H3 fp (X.pn ++ pins) _ s6 sg6 H6 (fun b' H7 => b' = b ∧ ∃ rho7, g.Keep rho' H6 rho7 H7 ∧ g.Sto rho7 st2 H7) I6 ⟨rho', st', env', S', n6, ?_⟩) (fun ok s7 h7 => ?_) (fun _ _ z => z.elim)
        · show RQ (g.with fun _ _ _ => False) (Bj g.tab g.call ifs' env' st') _ rho' H6
          rw [eb]
          exact fun H7 rho7 k7 s7 => ⟨rfl, rho7, k7, s7⟩
        obtain ⟨H7, I7, e7, rho7, k7, S7⟩ := h7
        subst e7
        have n7 : g.Env rho7 H7 env' sg6 := n6.mono k7
        have done : ∀ (rho9 : List Addr) (st9 : Sto) (H9 : Hp) (s9 : Shared), L2.Inv (cxG X N scope cl s3.heap.objs.size s3 H3 fp (X.pn ++ pins)) ([] ++ Gk fp s5.heap) sg6 H9 s9 → g.Keep rho7 H7 rho9 H9 → g.Sto rho9 st9 H9 → Bg xs p st1.length body (xs.drop (i + 1)) st9 = .ok () stf →
            ∃ m, m < xs.length - i ∧ ∃ i rho' st' H' sg', L2.Inv (cxG X N scope cl s3.heap.objs.size s3 H3 fp (X.pn ++ pins)) [] sg' H' s9 ∧ tn i s9.heap ∧ (∀ b ∈ fp, H' b = none) ∧ g.Keep r3 H3 rho' H' ∧ g.Sto rho' st' H' ∧ g.Env rho' H' (bj nl fv env) sg' ∧ m = xs.length - i ∧ i ≤ xs.length ∧ Bg xs p st1.length body (xs.drop i) st' = .ok () stf := by
          intro rho9 st9 H9 s9 I9 k9 S9 hl9
          refine ⟨xs.length - (i + 1), by omega, i + 1, rho9, st9, H9, sg6, I9.unpinned, T.keep _ _ _ tn5 fun b hb o e => (I9.pin (b, o) (List.mem_append_right _ (List.mem_append_right _ (gm hb e)))).1, fun b hb => ?_, (kk.trans k7).trans k9, S9, Qs rfl hel hhi (n7.mono k9), rfl, hlt, hl9⟩
          obtain ⟨o, e, d⟩ := T.obj _ _ tn5 b hb
          exact (I9.pin (b, o) (List.mem_append_right _ (List.mem_append_right _ (gm hb e)))).2.1
        cases ok with
        | false =>
          rw [if_neg Bool.false_ne_true]
          simp only [Bool.false_eq_true, if_false] at hl'
          exact done rho7 st2 H7 s7 I7 (.refl _ _) S7 hl'
        | true =>
          rw [if_pos rfl]
          simp only [if_true] at hl'
          obtain ⟨kd, st3, ek, hl'⟩ : ∃ kd st3, Aa g.tab g.call kx' env' st2 = .ok kd st3 ∧ (match ((Aa g.tab g.call vx' env' st3).bind fun y st => .ok (some (kd, y)) st : Res (Option (D × D))) with
            | .ok (some (k, y)) st' => (match st'[st1.length]? with
              | some (.dct kvs) => if kvs.length < sizeLine ∧ Bv k = true then Bg xs p st1.length body (xs.drop (i + 1)) (st'.set st1.length (.dct (bx kvs k y))) else .bad
              | _ => .bad)
            | .ok none st' => Bg xs p st1.length body (xs.drop (i + 1)) st'
            | _ => .bad) = Res.ok () stf := by
            cases ek : Aa g.tab g.call kx' env' st2 with
            | ok kd st3 => rw [ek] at hl'; exact ⟨kd, st3, rfl, hl'⟩
            | exc c st4 => rw [ek] at hl'; cases hl'
            | bad => rw [ek] at hl'; cases hl'
          obtain ⟨y, st4, ee, hl'⟩ : ∃ y st4, Aa g.tab g.call vx' env' st3 = .ok y st4 ∧ (match st4[st1.length]? with
              | some (.dct kvs) => if kvs.length < sizeLine ∧ Bv kd = true then Bg xs p st1.length body (xs.drop (i + 1)) (st4.set st1.length (.dct (bx kvs kd y))) else .bad
              | _ => .bad) = Res.ok () stf := by
            cases ee : Aa g.tab g.call vx' env' st3 with
            | ok y st4 => rw [ee] at hl'; exact ⟨y, st4, rfl, hl'⟩
            | exc c st4 => rw [ee] at hl'; cases hl'
            | bad => rw [ee] at hl'; cases hl'
          obtain ⟨kvs, ey, ⟨hys, hkd⟩, hl'⟩ : ∃ kvs, st4[st1.length]? = some (.dct kvs) ∧ (kvs.length < sizeLine ∧ Bv kd = true) ∧ Bg xs p st1.length body (xs.drop (i + 1)) (st4.set st1.length (.dct (bx kvs kd y))) = .ok () stf := by
            split at hl'
            · rename_i kvs ey
              split at hl'
              · rename_i hys; exact ⟨kvs, ey, hys, hl'⟩
              · cases hl'
            · cases hl'
          refine wpAny_mono (hkx s3.heap.objs.size s3 H3 fp (X.pn ++ pins) _ s7 sg6 H7 (fun w H8 => ∃ rho8, g.Keep rho7 H7 rho8 H8 ∧ g.Sto rho8 st3 H8 ∧ g.Rep rho8 H8 kd w) I7 ⟨rho7, st2, env', S7, n7, ?_⟩) (fun kv s8 h8 => ?_) (fun _ _ z => z.elim)
          · show RQ (g.with fun _ _ _ => False) (Aa g.tab g.call kx' env' st2) _ rho7 H7
            rw [ek]
            exact fun w H8 rho8 k8 s8 r8 => ⟨rho8, k8, s8, r8⟩
          obtain ⟨wk, H8, I8, rw8, rho8, k8, S8, rp8⟩ := h8
          refine wpAny_mono (hvx s3.heap.objs.size s3 H3 fp (X.pn ++ pins) _ s8 sg6 H8 (fun w H9 => ∃ rho9, g.Keep rho8 H8 rho9 H9 ∧ g.Sto rho9 st4 H9 ∧ g.Rep rho9 H9 y w) I8 ⟨rho8, st3, env', S8, n7.mono k8, ?_⟩) (fun yv s9 h9 => ?_) (fun _ _ z => z.elim)
          · show RQ (g.with fun _ _ _ => False) (Aa g.tab g.call vx' env' st3) _ rho8 H8
            rw [ee]
            exact fun w H9 rho9 k9 s9 r9 => ⟨rho9, k9, s9, r9⟩
          obtain ⟨w, H9, I9, rw9, rho9, k9, S9, rp9⟩ := h9
          obtain ⟨kk9, ekk⟩ := ic hkd
          have rpk := rp8.mono k9
          cases Ic rpk ekk
          have edc : Az st4 st1.length = some kvs := by unfold Az; rw [ey]
          obtain ⟨a9, ws, hr9, _, hH9, kv9⟩ := gb S9 edc
          rw [k9.at (k8.at (k7.at (kk.at acc_at)))] at hr9; cases hr9
          obtain ⟨k10, S10⟩ := Mu S9 (k9.at (k8.at (k7.at (kk.at acc_at)))) ey hH9 (Ms ekk rp9 kv9)
          exact zg (X := cxG X N scope cl s3.heap.objs.size s3 H3 fp (X.pn ++ pins)) I9 hH9 (by rw [← Ii kv9]; exact hys) rw8 rw9 fun s10 I10 => done rho9 _ _ s10 I10 ((k8.trans k9).trans k10) S10 hl'
      · have ei : i = xs.length := by omega
        subst ei
        refine thn (T.done (cxG X N scope cl s3.heap.objs.size s3 H3 fp (X.pn ++ pins)) rfl rfl rfl hc xs.length [] s' sg' H' _ I' (bfp fr') tn' jstop) fun r s4 ⟨hr4, I4⟩ => ?_
        subst hr4
        rw [List.drop_eq_nil_of_le (Nat.le_refl _)] at hl'
        simp only [Bg, hst, if_true] at hl'
        cases hl'
        obtain ⟨m4, hn4, _⟩ := I4.loc
        refine ⟨m4, hn4, fun h' sb => ?_⟩
        refine ⟨.ref ac, H', ?_, rfl, q1 (.ref ac) H' rho' ((k1.trans k13).trans kk) S' (bf.mpr ⟨ac, kk.at acc_at, rfl⟩)⟩
        have u4 : Un (frs X.stack) fp H3 H' s3.heap s4.heap := I4.base
        have hL : ∀ b o, s3.heap.get? b = some o → b ≠ s3.heap.objs.size := fun b o e => Nat.ne_of_lt (Heap.lt_size e)
        have fL : H' s3.heap.objs.size = none := I4.free
        refine I3.call' (s' := { s4 with heap := h' }) (ch := fp) I4.os ⟨fun b o e n hb hx => (sb.2 b (hL b o e)).trans (u4.keep b o e n hb hx), fun b o e n hb hx => ?_, u4.free, fun b o e hx => ?_, u4.tups, u4.frzs, u4.tbls⟩ (fun b o e => ?_) I4.bare fun b hb => ?_
        · obtain ⟨sl, e1⟩ := u4.slot b o e n hb hx
          exact ⟨sl, (sb.2 b (hL b o e)).trans e1⟩
        · obtain ⟨o', e1⟩ := u4.there b o e hx
          exact ⟨o', (sb.2 b (hL b o e)).trans e1⟩
        · refine (I4.hok b o e).stay (fun c u hc' g' => (sb.2 c ?_).trans g') (fun _ h => h) fun _ _ h => h
          intro z
          rcases hc' with rfl | hc'
          · rw [z, fL] at e; cases e
          · rw [z, fL] at hc'; cases hc'
        · obtain ⟨f, _⟩ := hfp b hb
          exact ⟨f.2.2.2.1, f.2.1, f.2.2.2.2.1, f.2.2.2.2.2⟩
    exact codeAny_compStart_dict loop (T.self _ 0 _ _ _ tn0 loop)
  · refine hwi rho st env sg H _ S n ?_
    revert q
    cases Aa g.tab g.call it' env st with
    | bad => exact fun q => q
    | exc c st1 => exact fun q => q
    | ok d st1 =>
      simp only [ay]
      intro q
      cases ei : Bi k st1 d with
      | none => rw [ei] at q; exact q.elim
      | some xp =>
        obtain ⟨xs, p⟩ := xp
        rw [ei] at q
        exact ⟨xs, p, ei, fun H1 r1 J k1 s1 hJ => ⟨r1, st1, xs, p, k1, s1, hJ, RQ.mono k1 q fun _ _ z => z⟩⟩
end DD
namespace DD
open PySem PySem.Spec L2
open PyProof.Rows hiding St RelV
variable {g : G} {X : Cx} {pos pos' apos cpos : Pos} {F : Nat} {a b c : Expr} {a' b' c' : E}
def ik (env : Env) (x kk y : D) (st : Sto) : Res Fl := match x with
 | .loc n => match Az st n with
  | some kvs => if Bv kk = true ∧ kvs.length < sizeLine then .ok (.next env) (st.set n (.dct (bx kvs kk y))) else .bad
  | none => match dt st n with
   | some kvs => if Jm kk = true ∧ kvs.length < sizeLine then .ok (.next env) (st.set n (.dcn (bx kvs kk y))) else .bad
   | none => match st[n]?, kk with
    | some (.lst xs), .int i => if 0 ≤ i ∧ i < xs.length then .ok (.next env) (st.set n (.lst (xs.set i.toNat y))) else .bad
    | _, _ => .bad
 | _ => .bad
theorem RepL.set : ∀ {ds : List D} {vs : List V} (i : Nat), g.Rep rho H y v → g.RepL rho H ds vs → g.RepL rho H (ds.set i y) (vs.set i v)
 | [], vs, i, _, r => by simp only [DD.RepL] at r; subst r; simp [DD.RepL]
 | d :: t, vs, 0, ry, r => by
  simp only [DD.RepL] at r
  obtain ⟨x, w, rfl, r1, r2⟩ := r
  simp only [List.set_cons_zero, DD.RepL]
  exact ⟨v, w, rfl, ry, r2⟩
 | d :: t, vs, i + 1, ry, r => by
  simp only [DD.RepL] at r
  obtain ⟨x, w, rfl, r1, r2⟩ := r
  simp only [List.set_cons_succ, DD.RepL]
  exact ⟨x, _, rfl, r1, RepL.set i ry r2⟩
theorem jw (hK : X.K = g.K) (hw : g.cls.w = X.w) (hu : X.A.units + 64 < cLine) (ho : Sd g X o o') (hi : Sd g X i i') (hv : Sd g X value v') (hs : swapsWith value (some (.Subscript o i pos')) pos.line X.env = pure false := by rfl) :
    SdS g X F (.Assign [.Subscript o i pos'] value pos) (.dput o' i' v') := by
  intro pins s sg H D I h
  obtain ⟨rho, st, env, S, n, q⟩ := h
  have q : RQ g ((Aa g.tab g.call v' env st).bind fun y st => (Aa g.tab g.call o' env st).bind fun x st => (Aa g.tab g.call i' env st).bind fun kk st => ik env x kk y st) (Bc g rho H D) rho H := by
    simp only [ai] at q
    exact q
  refine wpAny_Assign_Subscript (thn (hv pins s sg H (fun v H1 => ∃ r1 st1 y, g.Keep rho H r1 H1 ∧ g.Sto r1 st1 H1 ∧ g.Env r1 H1 env sg ∧ g.Rep r1 H1 y v ∧ RQ g ((Aa g.tab g.call o' env st1).bind fun x st => (Aa g.tab g.call i' env st).bind fun kk st => ik env x kk y st) (Bc g rho H D) r1 H1) I
    (step S n q fun y st1 v H1 r1 k1 s1 n1 ry q1 => ⟨r1, st1, y, k1, s1, n1, ry, q1⟩)) fun r s1 ⟨v, H1, I1, rv, r1, st1, y, k1, S1, n1, ry, q1⟩ => ?_) hs
  refine thn (ho pins s1 sg H1 (fun w H2 => ∃ r2 st2 x, g.Keep r1 H1 r2 H2 ∧ g.Sto r2 st2 H2 ∧ g.Env r2 H2 env sg ∧ g.Rep r2 H2 x w ∧ RQ g ((Aa g.tab g.call i' env st2).bind fun kk st => ik env x kk y st) (Bc g rho H D) r2 H2) I1
    (step S1 n1 q1 fun x st2 w H2 r2 k2 s2 n2 rx q2 => ⟨r2, st2, x, k2, s2, n2, rx, q2⟩)) fun ov s2 ⟨w, H2, I2, rov, r2, st2, x, k2, S2, n2, rx, q2⟩ => ?_
  refine thn (hi pins s2 sg H2 (fun z H3 => ∃ r3 st3 kk, g.Keep r2 H2 r3 H3 ∧ g.Sto r3 st3 H3 ∧ g.Env r3 H3 env sg ∧ g.Rep r3 H3 kk z ∧ RQ g (ik env x kk y st3) (Bc g rho H D) r3 H3) I2
    (step S2 n2 q2 fun kk st3 z H3 r3 k3 s3 n3 rk q3 => ⟨r3, st3, kk, k3, s3, n3, rk, q3⟩)) fun iv s3 ⟨z, H3, I3, riv, r3, st3, kk, k3, S3, n3, rk, q3⟩ => ?_
  unfold ik at q3
  have ry3 := (ry.mono k2).mono k3
  have rx3 := rx.mono k3
  have kall := (k1.trans k2).trans k3
  cases x with
  | loc m =>
    obtain ⟨p, hp, rfl⟩ := bf.mp rx3
    obtain rfl : ov = Value.ref p := rov
    simp only at q3
    cases e : Az st3 m with
    | some kvs =>
      rw [e] at q3
      simp only at q3
      split at q3
      · rename_i hk
        obtain ⟨k, ek⟩ := ic hk.1
        obtain ⟨p2, ws, h1, hc, h2, kv⟩ := gb S3 e
        rw [hp] at h1; cases h1
        cases Ic rk ek
        obtain ⟨k4, S4⟩ := Mu S3 hp hc h2 (Ms ek ry3 kv)
        exact Xf (by omega) I3 (gp.k h2 (by rw [← Ii kv]; exact hk.2)) riv rv fun s4 I4 => ⟨_, _, I4, (show Bc g rho H D (.next env) _ from q3) _ _ r3 (kall.trans k4) S4 (n3.mono k4)⟩
      · exact q3.elim
    | none =>
      rw [e] at q3
      simp only at q3
      cases e9 : dt st3 m with
      | none =>
        rw [e9] at q3
        simp only at q3
        split at q3
        · rename_i xs i el
          split at q3
          · rename_i hi
            obtain ⟨p2, vs, hr, hH, rl⟩ := fm S3 el
            rw [hp] at hr; cases hr
            have hl := rl.length
            obtain ⟨k4, S4⟩ := S3.wrote (ds := xs.set i.toNat y) (ws := vs.set i.toNat v) hp el hH (RepL.set i.toNat ry3 rl)
            refine wpAny_mono (set_list pins s3 sg H3 (.ref p) z v (.ref p) iv r (fun H' => H' = upd H3 p (.lst (vs.set i.toNat v))) I3 rfl riv rv ⟨p, vs, i, i.toNat, rfl, ao.mp rk, hH, ?_, rfl⟩) (fun _ s4 h4 => ?_) (fun _ _ h => h)
            · unfold L2.ixN
              rw [if_pos hi.1, if_pos (by rw [← hl]; exact hi.2)]
            · obtain ⟨H4, I4, rfl⟩ := h4
              exact ⟨_, _, I4, (show Bc g rho H D (.next env) _ from q3) _ _ r3 (kall.trans k4) S4 (n3.mono k4)⟩
          · exact q3.elim
        · exact q3.elim
      | some kvs => cases e9
  | _ => exact q3.elim
end DD
namespace DD
open PySem PySem.Spec L2
variable {tab : Nat → Ty → Option Bool} {call : Or}
theorem gu : ∀ env st, Aj tab call (.call f es dv) env st = (Aa tab call (.call f es dv) env st).bind fun d st => match truth st d with | some b => .ok b st | none => .bad := fun env st => by
 simp only [Aj, Aa]
 cases Ap tab call es env st <;> rfl
theorem Qw : ∀ env st, Aj tab call (.bt f es) env st = (Aa tab call (.bt f es) env st).bind fun d st => match truth st d with | some b => .ok b st | none => .bad := fun env st => by
 simp only [Aj, Aa]
 cases Ap tab call es env st <;> rfl
theorem Gu : ∀ env st, Aj tab call (.isi a t) env st = (Aa tab call (.isi a t) env st).bind fun d st => match truth st d with | some b => .ok b st | none => .bad := fun env st => by
 simp only [Aj, Aa]
 cases Aa tab call a env st with
 | ok x st1 =>
  simp only [ay]
  cases (Bn st1 x).bind fun u => cg tab u t <;> rfl
 | _ => rfl
end DD
namespace DD
open PySem
end DD
namespace DD
open PySem PySem.Spec L2
open PyProof.Rows hiding St RelV
variable {g : G} {X : Cx} {pos : Pos} {F : Nat}
def Mw : NameKind → Bool
 | .cell => true
 | .free => true
 | _ => false
def mx (cells : List (Str × Addr)) : List (Str × Addr) → Prop
 | [] => True
 | p :: l => cells.lookup p.1 = some p.2 ∧ mx cells l
theorem qx : ∀ {cl : List (Str × Addr)}, mx cells cl → ∀ x c, cl.lookup x = some c → cells.lookup x = some c
 | [], _, x, c, h => by cases h
 | (k, a) :: l, ⟨h1, h2⟩, x, c, h => by
  rw [List.lookup_cons] at h
  split at h
  · rename_i e
    cases h; rw [eq_of_beq e]; exact h1
  · exact qx h2 x c h
def Qx (cl : List (Str × Addr)) (names : List (Str × NameKind)) : Bool := names.all fun p => !Mw p.2 || (cl.lookup p.1).isSome
theorem Mx {α : Type} : ∀ {l : List (Str × α)} {x : Str} {a : α}, l.lookup x = some a → (x, a) ∈ l
 | [], x, a, h => by cases h
 | (k, b) :: l, x, a, h => by
  rw [List.lookup_cons] at h
  split at h
  · rename_i e; cases h; rw [eq_of_beq e]; exact .head _
  · exact .tail _ (Mx h)
theorem cj (h1 : mx X.env.cells cl) (h2 : Qx cl (relabel scope X.env).names = true) : Clos X scope cl := by
 refine ⟨qx h1, fun x h => ?_⟩
 unfold Qx at h2
 rw [List.all_eq_true] at h2
 rcases h with h | h
 · have := h2 _ (Mx h)
   simp only [Mw, Bool.not_true, Bool.false_or] at this
   exact Option.isSome_iff_exists.mp this
 · have := h2 _ (Mx h)
   simp only [Mw, Bool.not_true, Bool.false_or] at this
   exact Option.isSome_iff_exists.mp this
def FvO (N XN : List Str) (cl : List (Str × Addr)) (n1 n2 : List (Str × NameKind)) (nl : Nat) : Nat → List Nat → Prop
 | _, [] => True
 | j, k :: l => (∃ x c, N[nl + j]? = some x ∧ XN[k]? = some x ∧ cl.lookup x = some c ∧ (n1.lookup x = some .cell ∨ n1.lookup x = some .free) ∧ (n2.lookup x = some .cell ∨ n2.lookup x = some .free)) ∧ FvO N XN cl n1 n2 nl (j + 1) l
theorem qy : ∀ {l : List Nat} {a : Nat}, FvO N XN cl n1 n2 nl a l → ∀ j k, l[j]? = some k → ∃ x c, N[nl + (a + j)]? = some x ∧ XN[k]? = some x ∧ cl.lookup x = some c ∧ (n1.lookup x = some .cell ∨ n1.lookup x = some .free) ∧ (n2.lookup x = some .cell ∨ n2.lookup x = some .free)
 | [], a, _, j, k, h => by simp at h
 | k0 :: l, a, ⟨h1, h2⟩, 0, k, h => by
  simp only [List.getElem?_cons_zero, Option.some.injEq] at h
  subst h; exact h1
 | k0 :: l, a, ⟨h1, h2⟩, j + 1, k, h => by
  simp only [List.getElem?_cons_succ] at h
  obtain ⟨x, c, q⟩ := qy h2 j k h
  refine ⟨x, c, ?_⟩
  rwa [show nl + (a + (j + 1)) = nl + (a + 1 + j) by omega]
theorem Cj (h : FvO N X.N cl X.env.scope.names (relabel scope X.env).names nl 0 fv) :
    ∀ j k, fv[j]? = some k → ∃ x c, N[nl + j]? = some x ∧ X.N[k]? = some x ∧ cl.lookup x = some c ∧ (X.env.scope.names.lookup x = some .cell ∨ X.env.scope.names.lookup x = some .free) ∧ ((relabel scope X.env).names.lookup x = some .cell ∨ (relabel scope X.env).names.lookup x = some .free) := fun j k hj => by
  have := qy h j k hj
  rwa [Nat.zero_add] at this
end DD
namespace DD
open PySem PySem.Spec L2
open PyProof.Rows hiding St RelV
variable {g : G} {X : Cx} {pos apos cpos p2 : Pos} {F : Nat} {a b c : Expr} {a' b' c' : E}
end DD
namespace DD
open PySem PySem.Spec L2
open PyProof.Rows hiding St RelV
open PySem.W (kdl_call kdl_values kdl_vals_eq kdl_dict)
variable {g : G} {X : Cx} {pos apos cpos p2 : Pos} {F : Nat} {a b c : Expr} {a' b' c' : E}
end DD
namespace DD
open PySem PySem.Spec
section
variable {pr : Program} {w : World} {A : Around} {Kt : Type} [DecidableEq Kt] {kn : KeyKind pr w Kt}
def met (f : Nat → Kt) : Nat → List Kt
 | 0 => []
 | i + 1 => if f i ∈ met f i then met f i else met f i ++ [f i]
theorem Qy (f : Nat → Kt) : ∀ i, (met f i).length ≤ i
 | 0 => by simp [met]
 | i + 1 => by
  have := Qy f i
  simp only [met]
  split <;> simp <;> omega
theorem Zi (f : Nat → Kt) (i : Nat) (k : Kt) : decide (k ∈ met f (i + 1)) = (decide (k ∈ met f i) || decide (k = f i)) := by
 simp only [met]
 split
 · rename_i h
   by_cases e : k = f i
   · subst e; simp [h]
   · simp [e]
 · simp [List.mem_append, Bool.decide_or]
theorem zj (f : Nat → Kt) (i : Nat) : (met f (i + 1)).length = if decide (f i ∈ met f i) = true then (met f i).length else (met f i).length + 1 := by
 simp only [met, decide_eq_true_eq]
 split <;> simp
variable {R : Result → Shared → Prop} {I : Addr} {fp wr : List Addr} {G : Array GenState → Array GenState → Prop} {n : Nat} {P : Nat → Value → Prop} {St : Nat → Shared → Prop}
theorem Zj (W : WalksS pr w A.in1 I fp wr G n P St) (T : Addr) (nT : T ∉ fp) (f : Nat → Kt) (hv : ∀ i v, P i v → kn.is (f i) v = true ∧ v.scannable = true) (hb : n + 1 < scanBound) :
    ∀ (k i : Nat) (s : Shared), n - i = k → i ≤ n → St i s → s.heap.SetOf kn T (fun x => decide (x ∈ met f i)) (met f i).length →
      (∀ s1, Moved (T :: wr) G s s1 → s1.heap.SetOf kn T (fun x => decide (x ∈ met f n)) (met f n).length → R (.ok (.ret .none)) s1) →
      codeAny (model pr w) A (.builtin "set.update.loop" ⟨[.ref T, .ref I], []⟩) R s := by
  have nW : T ∉ wr := fun z => nT (W.sub _ z)
  have sb : ∀ b ∈ wr, b ∈ T :: wr := fun b z => List.mem_cons_of_mem _ z
  have kp : ∀ {x y : Shared} {g : Kt → Bool} {m : Nat}, Moved wr G x y → x.heap.SetOf kn T g m → y.heap.SetOf kn T g m := by
    intro x y g m mv z
    obtain ⟨o, es, ep, tb, q, r⟩ := z
    exact ⟨o, es, ep, tb, mv.heap T _ nW q, r⟩
  intro k
  induction k with
  | zero =>
    intro i s e1 e2 ht hT hR
    obtain rfl : i = n := by omega
    refine codeAny_builtin PyProof.Rows.F.entry_set_update_loop ?_
    rw [Around.under_plainId PyProof.Rows.F.plain_set_update_loop _]
    change wpAny _ A.in1 (pyNext (.ref I) >>= _) _ _ s
    refine wpAny_bind (W.done s _ _ ht fun s1 mv => ?_)
    change wpAny _ A.in1 (ret Value.none) _ _ s1
    exact wpAny_pure (hR s1 (mv.mono sb) (kp mv hT))
  | succ k ih =>
    intro i s e1 e2 ht hT hR
    have lt : i < n := by omega
    refine codeAny_builtin PyProof.Rows.F.entry_set_update_loop ?_
    rw [Around.under_plainId PyProof.Rows.F.plain_set_update_loop _]
    change wpAny _ A.in1 (pyNext (.ref I) >>= _) _ _ s
    refine wpAny_bind (W.item i s _ _ lt ht fun v s1 hP ht1 mv => ?_)
    obtain ⟨hk, hs⟩ := hv i v hP
    have hT1 := kp mv hT
    change wpAny _ A.in1 (holding [v] (setAdd T v) >>= _) _ _ s1
    refine wpAny_bind (wpAny_holding ?_)
    unfold setAdd
    refine wpAny_holding (wpAny_bind (kn.pyHash (k := f i) hk ?_))
    have rm : (met f i).length + 1 < scanBound := by have := Qy f i; omega
    refine wpAny_setAddHashed_of (knd := kn) (s := { s1 with toks := s1.toks + 1 }) hk hs hT1 rm fun h1 hsb hT2 => ?_
    have hT3 : h1.SetOf kn T (fun x => decide (x ∈ met f (i + 1))) (met f (i + 1)).length := by
      rw [zj, show (fun x => decide (x ∈ met f (i + 1))) = fun x => decide (x ∈ met f i) || decide (x = f i) from funext (Zi f i)]
      exact hT2
    refine wpAny_pure ⟨plainId_quiet PyProof.Rows.F.plain_set_update_loop _, ih (i + 1) _ (by omega) lt (W.frame _ s1 _ _ ht1 (Nat.le_succ _) fun b hb o e => ?_) hT3 fun s2 mv2 hT4 => ?_⟩
    · exact (hsb.2 b fun z => nT (z ▸ hb)).trans e
    · refine hR s2 (Moved.trans W.gtrans ((mv.mono sb).then_heap (Nat.le_succ _) fun b o nb e => ?_) mv2) hT4
      exact (hsb.2 b fun z => nb (z ▸ List.mem_cons_self)).trans e
end
end DD
namespace DD
open PySem PySem.Spec
section
variable {pr : Program} {w : World} {A : Around} {Er : Value → Shared → Prop} {s : Shared} {Kt : Type} [DecidableEq Kt] {kn : KeyKind pr w Kt}
abbrev Fq (b : Bool) : Obj := { cls := .type "set", dict := none, data := .set #[] 0 (.fresh 0 0 b) }
theorem zk (hh : A.handled = none) (hl : s.heap.IsList l its) (hv : ∀ i v, its[i]? = some v → kn.is (f i) v = true ∧ v.scannable = true) (hb : its.size + 1 < scanBound)
    (hq : ∀ (h1 : Heap) (tk : Nat), h1.SetOf kn s.heap.objs.size (fun x => decide (x ∈ met f its.size)) (met f its.size).length → (∀ b o, b < s.heap.objs.size → s.heap.get? b = some o → h1.get? b = some o) → Q (.ref s.heap.objs.size) { s with heap := h1, toks := tk }) :
    wpAny (model pr w) A (call (.type "set") [.ref l]) Q Er s := by
  obtain ⟨c, tl, xm⟩ := PySem.F.called_set.mro
  have x1 := PySem.F.called_set.made
  have x2 := PySem.F.called_set.sub
  refine wpAny_call (codeAny_of_tree ?_)
  change wpAny _ _ (callAny (.type "set") _) _ _ _
  refine wpAny_pure ⟨Code.quiet_builtin _ (by decide +kernel), codeAny_builtin PySem.F.entry_type_call ?_⟩
  rw [Around.under_plain (weight_type_call_type "set" [.ref l] []) rfl]
  have x3 := PySem.F.called_set.notType
  have x4 := PySem.F.called_set.canCreate
  have x5 := PySem.F.typeCall_set_1 (.ref l)
  repeat (any_goals (first | assumption | wp_step))
  refine codeAny_mono (code_set_new_1 (.ref l) (E := Er) (Q₁ := fun ob s1 => ∃ b : Bool, ob = .ref s.heap.objs.size ∧ s1 = { s with heap := s.heap.push (Fq b) }) fun b => ⟨b, rfl, rfl⟩) fun r s1 z => ?_
  cases r with
  | error e => exact z
  | ok fl =>
    cases fl with
    | ret ob =>
      obtain ⟨b, rfl, rfl⟩ := z
      have y1 : (s.heap.push (Fq b)).get? s.heap.objs.size = some (Fq b) := Heap.get?_push_size _ rfl
      have y2 : Shared.TypeIs { s with heap := s.heap.push (Fq b) } (.ref s.heap.objs.size) "set" := ⟨_, y1, rfl⟩
      have y3 := PySem.F.called_set.init.lookup
      have y4 := PySem.F.called_set.init.bind (.ref s.heap.objs.size)
      repeat (any_goals (first | assumption | wp_step))
      refine codeAny_mono (codeAny_call_builtin (R := wants (fun r s2 => r = .none ∧ ∃ h1 tk, s2 = { s with heap := h1, toks := tk } ∧
          h1.SetOf kn s.heap.objs.size (fun x => decide (x ∈ met f its.size)) (met f its.size).length ∧ (∀ b o, b < s.heap.objs.size → s.heap.get? b = some o → h1.get? b = some o)) Er) PySem.F.called_set.init.plain PySem.F.entry_set_init (check_set_init_1 y2 ?_)) fun r2 s2 z2 => ?_
      · obtain ⟨ol, q1, q2, nl, q3⟩ := hl
        obtain ⟨oc, od, oa, os⟩ := ol
        simp only at q2 q3
        subst q2; subst q3
        have q4 : (s.heap.push (Fq b)).get? l = some { cls := .type "list", dict := od, data := .seq its nl, slots := os } := Heap.get?_push_of_some _ q1
        have u1 := PySem.F.sub_list_set
        have u2 := PySem.F.sub_list_frozenset
        have u3 : (Value.type "list" == Value.type "dict") = false := by decide
        have u4 : (s.heap.push (Fq b)).IsList l its := ⟨_, q4, rfl, nl, rfl⟩
        unfold Builtin.«set.__init__» noKeywords Builtin.Frozenset.updateFrom
        generalize gP : pyIter = PI
        wp_walk
        subst gP
        refine wpAny_pyIter_list u4 (wpAny_bind (wpAny_runValue ?_))
        have lS : l < s.heap.objs.size := Heap.lt_size q1
        have n1 : l ≠ (s.heap.push (Fq b)).objs.size := by rw [Heap.size_push]; exact Nat.ne_of_lt (Nat.lt_succ_of_lt lS)
        have n2 : s.heap.objs.size ∉ [(s.heap.push (Fq b)).objs.size, l] := by
          rw [Heap.size_push]
          simp only [List.mem_cons, List.not_mem_nil, or_false, not_or]
          exact ⟨Nat.ne_of_lt (Nat.lt_succ_self _), Nat.ne_of_gt lS⟩
        refine Zj (kn := kn) ((Walks.list (by simp [hh]) _ l n1 its).toS) s.heap.objs.size n2 f hv hb (its.size - 0) 0 _ (by omega) (Nat.zero_le _) ⟨⟨_, Heap.get?_push_size _ rfl, rfl, rfl⟩, (u4.push _)⟩ ?start ?fin
        case start => exact (PyProof.Rows.setObjOf_fresh (knd := kn) b).setOf (Heap.get?_push_of_some _ y1) (by unfold scanBound; omega)
        case fin =>
          intro s3 mv hT
          obtain ⟨h3, g3, d3, t3, o3⟩ := s3
          have w1 : g3 = s.gens := mv.gens
          have w2 : d3 = s.drawn := mv.drawn
          have w3 : o3 = s.os := mv.os
          subst w1; subst w2; subst w3
          change wpAny _ _ _ _ _ _
          refine wpAny_pure ?_
          change wpAny _ _ (ret Value.none) _ _ _
          refine wpAny_pure ⟨rfl, h3, t3, rfl, hT, fun b2 o hb2 e => ?_⟩
          refine mv.heap b2 o ?_ (Heap.get?_push_of_some _ (Heap.get?_push_of_some _ e))
          simp only [List.mem_cons, List.not_mem_nil, or_false, not_or]
          exact ⟨Nat.ne_of_lt hb2, by rw [Heap.size_push]; exact Nat.ne_of_lt (Nat.lt_succ_of_lt hb2)⟩
      · cases r2 with
        | error e => exact z2
        | ok fl2 =>
          cases fl2 with
          | ret r =>
            obtain ⟨rfl, h1, tk, rfl, hT, hk⟩ := z2
            repeat (any_goals (first | assumption | wp_step))
            exact hq _ _ hT hk
          | _ => exact z2.elim
    | _ => exact z.elim
end
end DD
namespace DD
open PySem PySem.Spec L2
open PyProof.Rows hiding St RelV
variable {g : G} {X : Cx} {pos apos cpos p2 : Pos} {F : Nat} {a b c : Expr} {a' b' c' : E}
abbrev kAt (ks : List Key) (i : Nat) : Key := (ks[i]?).getD (.inl 0)
def tLS (K : PySem.W.Frag) (te : TE) : TE := fun sg H Q => te sg H fun x H1 => ∃ a ks, x = .ref a ∧ SqL K H1 a (ks.map kV) ∧ ks.length < 4000 ∧ Q (.int ((met (kAt ks) ks.length).length : Nat)) H1
theorem Zk (r : RelV (kV k) u) : u.scannable = true := by
 cases k with
 | inl i => obtain ⟨t, e⟩ := (show ∃ t, u = Value.int i t from r); subst e; rfl
 | inr x => obtain ⟨t, e⟩ := (show ∃ t, u = Value.str x t from r); subst e; rfl
theorem zl : ∀ {us : List Value}, Vals (ks.map kV) us → ∀ (i : Nat) (u : Value), us[i]? = some u → RelV (kV (kAt ks i)) u := by
 induction ks with
 | nil => intro us h i u e; rw [List.map_nil] at h; cases h; simp at e
 | cons k r ih =>
  intro us h i u e
  rw [List.map_cons] at h
  cases h with
  | cons p t =>
   cases i with
   | zero => simp only [List.getElem?_cons_zero, Option.some.injEq] at e; subst e; exact p
   | succ i => simp only [List.getElem?_cons_succ] at e; have := ih t i u e; simpa [kAt] using this
theorem Zl {n1 n2 : Pos} (hc : X.calm = true) (hg : Gl X "len") (hm : X.mg "len" = none) (hg2 : Gl X "set") (hm2 : X.mg "set" = none) (ha : PE X e te)
    (he : starEach [.Call (.Name "set" n2) [e] [] cpos] X.env = (false, eval (.Call (.Name "set" n2) [e] [] cpos) X.env) :: starEach [] X.env := by rfl) (hpl : (backTo pos (starEach [] X.env)).any (·.1) = false := by rfl)
    (he2 : starEach [e] X.env = (false, eval e X.env) :: starEach [] X.env := by rfl) (hpl2 : (backTo cpos (starEach [] X.env)).any (·.1) = false := by rfl) :
    PE X (.Call (.Name "len" n1) [.Call (.Name "set" n2) [e] [] cpos] [] pos) (tLS X.K te) := by
  intro pins s sg H Q I h
  refine wpAny_Call_Name_kw (gk I hg hm rfl ?_ (by decide) (by decide))
  refine PyProof.Rows.callWith_builtin1 ?_ he hpl
  rw [he]
  show wpAny _ _ (spliced ((false, eval (.Call (.Name "set" n2) [e] [] cpos) X.env) :: backTo pos (starEach [] X.env))) _ _ s
  refine Calls.spliced_cons ?_
  refine wpAny_Call_Name_kw (gk I hg2 hm2 rfl ?_ (by decide) (by decide))
  refine PyProof.Rows.callWith_type1 ?_ he2 hpl2
  rw [he2]
  show wpAny _ _ (spliced ((false, eval e X.env) :: backTo cpos (starEach [] X.env))) _ _ s
  refine Calls.spliced_cons (thn (ha pins s sg H _ I h) fun u s1 ⟨x, H1, I1, rx, q, ks, ex, hx, hz, q1⟩ => Calls.spliced_nil ?_)
  subst ex
  cases rx
  obtain ⟨its, r, ht, _⟩ := I1.list hx
  have hlen : its.length = ks.length := by have := r.length; simpa using this.symm
  have hsz : its.toArray.size = ks.length := by rw [List.size_toArray]; exact hlen
  refine zk (kn := Ck X.prog X.w) (f := kAt ks) (I1.ok.hd hc) ht.isList (fun i v e => ?_) (by rw [hsz]; unfold scanBound; omega) fun h1 tk hS hk => Calls.spliced_nil ?_
  · have e : its[i]? = some v := by simpa using e
    have rk := zl r i v e
    exact ⟨Fy rk, Zk rk⟩
  · rw [hsz] at hS
    obtain ⟨o, es, ep, t, ho, hex, hd, hel, hmem, hb, hf, hn⟩ := hS
    refine call_len_set ho hex hd hf (by unfold scanBound at hb; omega) ?_
    refine ⟨.int ((met (kAt ks) ks.length).length : Nat), H1, I1.kept (t' := tk + 1 + 1) fun b ob z => hk b ob (Heap.lt_size z) z, ⟨_, by rw [hn]⟩, q1⟩
def Ik {α : Type} [DecidableEq α] (acc : List α) (x : α) : List α := if x ∈ acc then acc else acc ++ [x]
theorem qz : ∀ i, i ≤ ks.length → met (kAt ks) i = (ks.take i).foldl Ik []
 | 0, _ => by simp [met]
 | i + 1, h => by
  have ih := qz (ks := ks) i (by omega)
  have hi : i < ks.length := by omega
  rw [List.take_succ, List.getElem?_eq_getElem hi]
  simp only [Option.toList, List.foldl_append, List.foldl_cons, List.foldl_nil, ← ih]
  have hk : kAt ks i = ks[i] := by simp [kAt, List.getElem?_eq_getElem hi]
  simp only [met, Ik]
  rw [hk]
theorem Qz (h : Paired (fun d k => kD d = some k) acc ak) (e : kD d = some k) : d ∈ acc ↔ k ∈ ak := by
 induction h with
 | nil => simp
 | @cons x y t r p q ih =>
  simp only [List.mem_cons, ih]
  constructor
  · rintro (z | z)
    · subst z; rw [e] at p; cases p; exact .inl rfl
    · exact .inr z
  · rintro (z | z)
    · subst z; exact .inl (jt e p)
    · exact .inr z
theorem zm (h : Paired (fun d k => kD d = some k) acc ak) (e : kD d = some k) : Paired (fun d k => kD d = some k) (acc ++ [d]) (ak ++ [k]) := by
 induction h with
 | nil => exact .cons e .nil
 | cons p q ih => exact .cons p ih
theorem Zm (h : Paired (fun d k => kD d = some k) xs ks) : ∀ {acc : List D} {ak : List Key}, Paired (fun d k => kD d = some k) acc ak → Paired (fun d k => kD d = some k) (xs.foldl Ik acc) (ks.foldl Ik ak) := by
 induction h with
 | nil => intro acc ak h; exact h
 | @cons x y t r p q ih =>
  intro acc ak h
  simp only [List.foldl_cons]
  refine ih ?_
  unfold Ik
  by_cases z : x ∈ acc
  · rw [if_pos z, if_pos ((Qz h p).mp z)]; exact h
  · rw [if_neg z, if_neg (fun z2 => z ((Qz h p).mpr z2))]; exact zm h p
theorem ra (h : Paired (fun d k => kD d = some k) acc ak) : acc.length = ak.length := by
 induction h with
 | nil => rfl
 | cons p q ih => simp [ih]
theorem Zn (h : Paired (fun d k => kD d = some k) xs ks) : (fz xs).length = (met (kAt ks) ks.length).length := by
 rw [qz _ (Nat.le_refl _), List.take_length]
 exact ra (Zm h .nil)
theorem Ra : ∀ {xs : List D} {rho : List Addr} {H : Hp} {vs : List V}, xs.all Bv = true → g.RepL rho H xs vs → ∃ ks : List Key, Paired (fun d k => kD d = some k) xs ks ∧ vs = ks.map kV
 | [], rho, H, vs, _, h => by simp only [G.RepL, RepL] at h; subst h; exact ⟨[], .nil, rfl⟩
 | d :: r, rho, H, vs, hk, h => by
  simp only [List.all_cons, Bool.and_eq_true] at hk
  simp only [G.RepL, RepL] at h
  obtain ⟨v, t, rfl, rd, q⟩ := h
  obtain ⟨k, ek⟩ := ic hk.1
  obtain ⟨ks, p, rfl⟩ := Ra hk.2 q
  exact ⟨k :: ks, .cons ek p, by rw [List.map_cons, Ic rd ek]⟩
theorem zo {n1 n2 : Pos} (hK : X.K = g.K) (hc : X.calm = true) (hg : Gl X "len") (hm : X.mg "len" = none) (hg2 : Gl X "set") (hm2 : X.mg "set" = none) (ha : Sd g X e e')
    (he : starEach [.Call (.Name "set" n2) [e] [] cpos] X.env = (false, eval (.Call (.Name "set" n2) [e] [] cpos) X.env) :: starEach [] X.env := by rfl) (hpl : (backTo pos (starEach [] X.env)).any (·.1) = false := by rfl)
    (he2 : starEach [e] X.env = (false, eval e X.env) :: starEach [] X.env := by rfl) (hpl2 : (backTo cpos (starEach [] X.env)).any (·.1) = false := by rfl) :
    Sd g X (.Call (.Name "len" n1) [.Call (.Name "set" n2) [e] [] cpos] [] pos) (.bt .lenSetB (.cons e' .nil)) := Ay (Zl hc hg hm hg2 hm2 ha he hpl he2 hpl2) fun sg H Q q => by
  obtain ⟨rho, st, env, s, n, q⟩ := q
  simp only [Aa, Ap, ay, bind_assoc] at q
  refine step s n q fun d st1 x H1 r1 k1 s1 n1 rp q1 => ?_
  cases d with
  | loc j =>
    simp only [btD] at q1
    split at q1
    · rename_i xs ed
      split at q1
      · rename_i hz
        obtain ⟨p, vs, h1, sq, rl⟩ := dz s1 ed
        obtain ⟨p2, h2, rfl⟩ := bf.mp rp
        rw [h1] at h2; cases h2
        obtain ⟨ks, pk, rfl⟩ := Ra hz.1 rl
        refine ⟨p, ks, rfl, by rw [hK]; exact sq, by rw [← ra pk]; exact hz.2, ?_⟩
        rw [Zn pk] at q1
        exact (show Al g rho H Q (.int _) st1 from q1) _ H1 r1 k1 s1 (ao.mpr rfl)
      · exact q1.elim
    · exact q1.elim
  | _ => exact q1.elim
end DD
namespace DD
open PySem PySem.Spec L2
open PyProof.Rows hiding St RelV
section
variable {pr : Program} {w : World} {A : Around} {Er : Value → Shared → Prop}
end
variable {g : G} {X : Cx} {pos apos cpos p2 : Pos} {F : Nat} {a b c : Expr} {a' b' c' : E}
theorem il (hg : Gl X x) (hm : X.mg x = some u) (r : RelV v u) (hr : ∀ rho H, g.Rep rho H d v) (hd : (x == ("__debug__" : Str)) = false := by decide) : Sd g X (.Name x pos) (.cst d) :=
 Ay (Oq hg hm r hd) fun sg H Q q => by
  obtain ⟨rho, st, env, s, n, q⟩ := q
  simp only [Aa] at q
  exact (show Al g rho H Q d st from q) _ H rho (.refl _ _) s (hr rho H)
end DD
namespace DD
open PySem PySem.Spec L2
open PyProof.Rows hiding St RelV
variable {g : G} {X : Cx} {pos : Pos} {F : Nat}
theorem Inv.loose (I : L2.Inv X pins sg H s) (f : Cy X pins H C) (sb : Heap.SameBut C s.heap h') : L2.Inv X pins sg H { s with heap := h' } := by
 have nb : ∀ b : Addr, b ∉ [C] → b ≠ C := fun b z e => z (by rw [e]; simp)
 refine I.call' (s' := { s with heap := h' }) (ch := [C]) rfl ⟨fun b o e n hb hx => (sb.2 b (nb b hx)).trans e, fun b o e n hb hx => ⟨o.slots, (sb.2 b (nb b hx)).trans e⟩, fun b o e n hx => n, fun b o e hx => ⟨o, (sb.2 b (nb b hx)).trans e⟩, fun _ _ z => z, fun _ _ _ z => z, fun b ps z => ⟨#[], by simpa using z⟩⟩ (fun b o e => ?_) I.bare fun b hb => ?_
 · refine (I.hok b o e).stay (fun c u hc' g' => (sb.2 c ?_).trans g') (fun _ h => h) fun _ _ h => h
   intro z
   rcases hc' with rfl | hc'
   · rw [z, f.1] at e; cases e
   · rw [z, f.1] at hc'; cases hc'
 · simp only [List.mem_singleton] at hb
   subst hb
   exact ⟨f.2.2.2.1, f.2.1, f.2.2.2.2.1, f.2.2.2.2.2⟩
theorem Il {pos' spos : Pos} (hK : X.K = g.K) (hc : X.calm = true) (hkind : scope.kind = .function) (hcell : ∀ y ∈ scope.names, y.2 ≠ .cell)
    (hnames : ∀ y ∈ scope.names, y.2 = .local → scope.names.lookup y.1 = some .local) (hclos : closureFor scope X.env = pure cl) (C : Clos X scope cl) (hN : N.length = nl + fv.length)
    (hfv : ∀ j k, fv[j]? = some k → ∃ x c, N[nl + j]? = some x ∧ X.N[k]? = some x ∧ cl.lookup x = some c ∧ (X.env.scope.names.lookup x = some .cell ∨ X.env.scope.names.lookup x = some .free) ∧ ((relabel scope X.env).names.lookup x = some .cell ∨ (relabel scope X.env).names.lookup x = some .free))
    (htg : ∀ i ∈ tgs, i < nl) (hi : SdI g X target iter k it') (hg : ∀ L s0 H0 fp pn, PG (cxG X N scope cl L s0 H0 fp pn) target (tg g.K tgs one))
    (ht : ∀ L s0 H0 fp pn, PTs (cxG X N scope cl L s0 H0 fp pn) ifs (Ih (g.with fun _ _ _ => False) ifs')) (he : ∀ L s0 H0 fp pn, Sd (g.with fun _ _ _ => False) (cxG X N scope cl L s0 H0 fp pn) elt elt')
    (hs : ∀ x, foldedSetIterable iter X.env x = pure x := by intro _; rfl)
    (hNd : X.N.Nodup) (hix : X.N[i]? = some x) (hx : X.env.scope.names.lookup x = some .local) (hsw : swapsWith (.ListComp elt [⟨target, iter, ifs, 0⟩] scope pos) (some (.Name x pos')) spos.line X.env = pure true := by rfl) :
    SdS g X F (.Assign [.Name x pos'] (.ListComp elt [⟨target, iter, ifs, 0⟩] scope pos) spos) (.set i (.comp k one nl tgs fv it' ifs' elt')) := by
  intro pins s sg H D I q
  have q : tE g (.comp k one nl tgs fv it' ifs' elt') sg H (fun v H1 => D.nx (sg.set i (some v)) H1) := by
    obtain ⟨rho, st, env, s, n, q⟩ := q
    refine ⟨rho, st, env, s, n, ?_⟩
    simp only [ai] at q
    revert q
    cases Aa g.tab g.call (.comp k one nl tgs fv it' ifs' elt') env st with
    | bad => exact fun q => q
    | exc c st1 => exact fun q => q
    | ok d st1 =>
      simp only [ay]
      intro q v H1 rho1 k1 s1 rp
      split at q
      · exact (show Bc g rho H D (.next _) st1 from q) _ H1 rho1 k1 s1 ((n.mono k1).set i rp)
      · exact q.elim
  rw [exec_Assign_Name_used _ _ _ _ hsw]
  refine wpAny_bind (wpAny_standAt (wpAny_bind ?_))
  show wpAny _ _ (comprehension (.ListComp elt [⟨target, iter, ifs, 0⟩] scope pos) scope X.env (firstIterPos [⟨target, iter, ifs, 0⟩] pos) (newList []) (firstAsync [⟨target, iter, ifs, 0⟩]) (firstIter [⟨target, iter, ifs, 0⟩] X.env) (some (assign (.Name x pos') X.env)) >>= fun _ => pure ()) _ _ s
  refine wpAny_bind (wpAny_mono (qt (use := some (assign (.Name x pos') X.env)) (Qv := fun _ s' => ∃ sg' H', L2.Inv X pins sg' H' s' ∧ D.nx sg' H') hK hc hkind hcell hnames hclos C hN hfv htg hi hg ht he hs I q fun ac Cc H' s4 hns fp hI hq => ?_) (fun _ s5 h5 => wpAny_pure (wpAny_pure h5)) fun _ _ z => z)
  obtain ⟨m, hm⟩ := hns
  have I4 := hI s4.heap (Heap.SameBut.refl ..)
  show wpAny _ _ (assign (.Name x pos') X.env (.ref ac)) _ _ s4
  refine wpAny_assign_Name (Oo (v := .ref ac) I4 hNd hix (.inl hx) rfl (fun s5 I5 hsb => ?_) (.inr hx))
  obtain ⟨a, sb, ha⟩ := hsb
  have na : Cc ≠ a := by
    rcases ha with z | z
    · rw [z]; exact fp.2.1
    · exact fun e => fp.2.2.2.2.1 x a z e.symm
  refine ⟨m, ?_, fun h' sb' => ⟨_, H', Inv.loose I5 fp sb', hq⟩⟩
  exact hm.at' fun o e => (sb.2 Cc na).trans e
end DD
namespace DD
open PySem PySem.Spec L2
open PyProof.Rows hiding St
theorem rb {K : PySem.W.Frag} {rho : List Addr} {H : Hp} : ∀ ns : List Int, RepL K rho H (ns.map D.int) (ns.map V.int)
 | [] => by simp [RepL]
 | n :: r => by simp only [List.map_cons, RepL]; exact ⟨_, _, rfl, by simp [Rep], rb r⟩
theorem Zo {K : PySem.W.Frag} {cls : CW} {run : List D → Sto → Res D} {ns : List Int} {st : Sto} (e : run [.loc 0] [.frz (ns.map D.int)] = .ok (.bl true) st)
    (H : Hp) (a : Addr) (hO : jm H) (hS : SqL K H a (ns.map V.int)) : spD K cls 1 run [.ref a] H (fun v _ => v = .bl true) fun _ _ _ => False := by
  refine ⟨rfl, [a], [.frz (ns.map D.int)], [.loc 0], ⟨rfl, ?_, ?_⟩, ?_, ?_⟩
  · intro n k b c d h1 h2 h3 h4 t1 t2
    cases n with
    | zero => cases h3; cases t1
    | succ n => cases h3
  · intro n b c h1 h2
    cases n with
    | zero =>
      cases h1; cases h2
      refine ⟨ns.map V.int, ?_, rb ns⟩
      rcases hS with h | h
      · rcases h with h | ⟨o, h⟩
        · rcases hO _ with z | ⟨o, xs, z⟩
          · rw [h] at z; cases z
          · rw [h] at z; cases z
        · exact .inl ⟨o, h⟩
      · exact .inr h
    | succ n => cases h1
  · simp [RepL, Rep]
  · rw [e]
    intro v H' rho' _ _ r
    simpa [Rep] using r
theorem zp (H : Hp) (s : Shared) (e : Value) (s' : Shared) (h : CXd P w [] H s (fun _ _ _ => False) e s') : False := by
 obtain ⟨_, _, _, _, _, _, _, z⟩ := h
 exact z
theorem sv {g : G} {pos : Pos} (h : X.env.scope.names.lookup x = some NameKind.local) (hN : X.N[i]? = some x := by rfl) (hd : (x == ("__debug__" : Str)) = false := by decide) (hcd : (x == ("__classdict__" : Str)) = false := by decide) : Sd g X (.Name x pos) (.var i) := ba i (pv i hN (Or.inl h) hd hcd)
theorem aw {g : G} : ∀ rho H, g.RepL rho H [] [] := fun _ _ => by simp [DD.RepL]
end DD
namespace DD
open PySem L2
section
variable {t : Nat → Ty → Option Bool} {call : Or} {F : Nat} {env : DD.Env} {st : Sto}
theorem ft : ag t call F .nil env st = .ok (.next env) st := by simp only [ag]
theorem gv : ag t call F (.cons s r) env st = (ai t call F s env st).bind fun f st => match f with
      | .next env' => ag t call F r env' st
      | f => .ok f st := by simp only [ag] <;> rfl
theorem Zp : ai t call F (.set i e) env st = (Aa t call e env st).bind fun d st => if i < env.length then .ok (.next (env.set i (some d))) st else .bad := by simp only [ai]
theorem zq : ai t call F (.unp is e) env st = (Aa t call e env st).bind fun d st => match store is false d env with | some env' => .ok (.next env') st | none => .bad := by simp only [ai] <;> rfl
theorem Zq : ai t call F (.par i j a b) env st = (Aa t call a env st).bind fun x st => (Aa t call b env st).bind fun y st => if i < env.length ∧ j < env.length then .ok (.next ((env.set i (some x)).set j (some y))) st else .bad := by simp only [ai]
theorem my : ai t call F (.ifS c a b) env st = (Aj t call c env st).bind fun x st => if x then ag t call F a env st else ag t call F b env st := by simp only [ai]
theorem Rb : ai t call F (.ret e) env st = (Aa t call e env st).bind fun d st => .ok (.ret d) st := by simp only [ai]
theorem Rc : ai t call F (.ex e) env st = (Aa t call e env st).bind fun d st => .ok (.next env) st := by simp only [ai]
theorem x_raise : ai t call F (.raiseS c) env st = .exc c st := by simp only [ai]
theorem zr : ai t call F (.tryS b c i h) env st = match ag t call F b env st with
      | .exc k st' => match t k (.o c) with
        | some true => if i < env.length then (match ag t call F h (blank env i (.loc st'.length)) (st' ++ [.exn k]) with
            | .ok (.next env2) st'' => .ok (.next (env2.set i none)) st''
            | .ok (.ret d) st'' => .ok (.ret d) st''
            | _ => .bad)
          else .bad
        | _ => .bad
      | r => r := by simp only [ai] <;> rfl
end
section
variable {t : Nat → Ty → Option Bool} {call : Or} {F : Nat} {env : DD.Env} {st : Sto}
def turn (t : Nat → Ty → Option Bool) (call : Or) (F : Nat) (tg : List Nat) (one : Bool) (b : Ss) (d : D) (env : DD.Env) (st : Sto) : Res Fl := match store tg one d env with | some env' => ag t call F b env' st | none => .bad
theorem rf {tg : List Nat} {one : Bool} {b : Ss} {d : D} {env' : DD.Env} (h : store tg one d env = some env') : turn t call F tg one b d env st = ag t call F b env' st := by unfold turn; rw [h]
theorem Rf {tg : List Nat} {one k : Bool} {it : E} {b : Ss} : ai t call F (.forS tg one k it b) env st = (Aa t call it env st).bind fun d st => match fh k st d with
      | some (xs, p) => forLoop xs p (turn t call F tg one b) xs env st
      | none => .bad := by simp only [ai] <;> rfl
theorem Zr {tg : List Nat} {one k : Bool} {it : E} {b : Ss} {d : D} {xs : List D} {p : Option Nat} {st' : Sto} (h : Aa t call it env st = .ok d st') (hw : fh k st' d = some (xs, p)) : ai t call F (.forS tg one k it b) env st = forLoop xs p (turn t call F tg one b) xs env st' := by rw [Rf, h, ay, hw]
theorem Zs {tg : List Nat} {es : Es} {b : Ss} : ai t call F (.forR tg es b) env st = (Ap t call es env st).bind fun ds st => match Dt ds with
      | some xs => forLoop xs none (turn t call F tg true b) xs env st
      | none => .bad := by simp only [ai] <;> rfl
end
theorem rg {all : List D} {p : Option Nat} {body : D → DD.Env → Sto → Res Fl} {J : Nat → DD.Env → Sto → Prop} (hs : ∀ i env st, J i env st → stays st p all = true) :
    ∀ (xs : List D) (i : Nat) (env : DD.Env) (st : Sto), J i env st → (∀ (j : Nat) (d : D), xs[j]? = some d → ∀ env st, J (i + j) env st → ∃ env' st', body d env st = .ok (.next env') st' ∧ J (i + j + 1) env' st') →
    ∃ env' st', forLoop all p body xs env st = .ok (.next env') st' ∧ J (i + xs.length) env' st'
  | [], i, env, st, h, _ => ⟨env, st, by simp only [forLoop]; rw [if_pos (hs _ _ _ h)], h⟩
  | d :: r, i, env, st, h, ht => by
    obtain ⟨e1, s1, h1, h2⟩ := ht 0 d rfl env st h
    obtain ⟨e2, s2, h3, h4⟩ := rg hs r (i + 1) e1 s1 h2 fun j x hx env st hj => by
      have := ht (j + 1) x (by simpa using hx) env st (by rwa [show i + (j + 1) = i + 1 + j by omega])
      rwa [show i + (j + 1) + 1 = i + 1 + j + 1 by omega] at this
    refine ⟨e2, s2, ?_, by rwa [show i + (d :: r).length = i + 1 + r.length by simp; omega]⟩
    simp only [forLoop]
    rw [if_pos (hs _ _ _ h), h1, ay]
    exact h3
theorem Dz {st : Sto} {n0 : Nat} {c : Cell} (h : st[n0]? = some c) (d : Cell) : (st.set n0 d)[n0]? = some d := by
 have : n0 < st.length := (List.getElem?_eq_some_iff.mp h).1
 simp [this]
def Ge (t : Nat → Ty → Option Bool) (call : Or) (tg : List Nat) (one : Bool) (env : DD.Env) (ifs : Es) (elt : E) (d : D) (st : Sto) : Res (Option D) := match store tg one d env with
 | some env' => (Bj t call ifs env' st).bind fun b st => if b then (Aa t call elt env' st).bind fun y st => .ok (some y) st else .ok none st
 | none => .bad
theorem mz {t : Nat → Ty → Option Bool} {call : Or} {env : DD.Env} {st st1 : Sto} {k nl : Nat} {one : Bool} {tg fv : List Nat} {it elt : E} {ifs : Es} {d : D} {xs : List D} {p : Option Nat} (h : Aa t call it env st = .ok d st1) (hi : Bi k st1 d = some (xs, p)) :
    Aa t call (.comp k one nl tg fv it ifs elt) env st = (compLoop xs p st1.length (Ge t call tg one (bj nl fv env) ifs elt) xs (st1 ++ [.lst []])).bind fun _ st' => .ok (.loc st1.length) st' := by
  rw [Aa, h]
  simp only [ay, hi]
  rfl
theorem Mz {all : List D} {p : Option Nat} {n0 : Nat} {body : D → Sto → Res (Option D)} {f : D → Option D} {J : Sto → Prop} (hs : ∀ st, J st → stays st p all = true) (hset : ∀ st ys, J st → J (st.set n0 (.lst ys))) :
    ∀ (xs ys : List D) (st : Sto), J st → st[n0]? = some (.lst ys) → ys.length + xs.length ≤ sizeLine →
    (∀ d ∈ xs, ∀ st ys, J st → st[n0]? = some (.lst ys) → ∃ st', body d st = .ok (f d) st' ∧ J st' ∧ st'[n0]? = some (.lst ys)) →
    ∃ st', compLoop all p n0 body xs st = .ok () st' ∧ J st' ∧ st'[n0]? = some (.lst (ys ++ xs.filterMap f))
  | [], ys, st, h, hy, _, _ => ⟨st, by simp only [compLoop]; rw [if_pos (hs _ h)], h, by simpa using hy⟩
  | d :: r, ys, st, h, hy, hl, hb => by
    obtain ⟨s1, e1, j1, y1⟩ := hb d List.mem_cons_self st ys h hy
    simp only [compLoop]
    rw [if_pos (hs _ h), e1]
    have hl2 : ys.length < sizeLine := by simp at hl; omega
    cases hf : f d with
    | none =>
      obtain ⟨s2, e2, j2, y2⟩ := Mz hs hset r ys s1 j1 y1 (by simp at hl ⊢; omega) fun x hx => hb x (List.mem_cons_of_mem _ hx)
      exact ⟨s2, e2, j2, by rw [List.filterMap_cons, hf]; exact y2⟩
    | some y =>
      obtain ⟨s2, e2, j2, y2⟩ := Mz hs hset r (ys ++ [y]) (s1.set n0 (.lst (ys ++ [y]))) (hset _ _ j1) (Dz y1 _) (by simp at hl ⊢; omega) fun x hx => hb x (List.mem_cons_of_mem _ hx)
      refine ⟨s2, ?_, j2, by rw [List.filterMap_cons, hf]; simpa using y2⟩
      simp only [y1, hl2, if_true]
      exact e2
def Fr (st st' : Sto) : Prop := ∀ j, j < st.length → st'[j]? = st[j]?
theorem Fr.refl (st : Sto) : Fr st st := fun _ _ => rfl
theorem Fr.app (m : Sto) : Fr st (st ++ m) := fun j h => List.getElem?_append_left h
theorem Fr.at {st st' : Sto} (h : Fr st st') {j : Nat} {c : Cell} (e : st[j]? = some c) : st'[j]? = some c := by rw [h j (List.getElem?_eq_some_iff.mp e).1]; exact e
theorem Fr.len (h : Fr st st') : st.length ≤ st'.length := by
 cases Nat.lt_or_ge st'.length st.length with
 | inr g => exact g
 | inl g =>
  have h1 := h st'.length g
  rw [List.getElem?_eq_none (Nat.le_refl _), List.getElem?_eq_getElem g] at h1
  cases h1
theorem Fr.trans {a b c : Sto} (h : Fr a b) (k : Fr b c) : Fr a c := fun j hj => (k j (Nat.lt_of_lt_of_le hj h.len)).trans (h j hj)
theorem Fr.set (h : Fr a b) (hn : a.length ≤ n) (c : Cell) : Fr a (b.set n c) := fun j hj => by
 rw [List.getElem?_set_ne (by omega)]; exact h j hj
theorem Fr.lst (h : Fr st st') (e : af st n = some xs) : af st' n = some xs := by
 unfold af at e ⊢
 cases z : st[n]? with
 | none => rw [z] at e; cases e
 | some c => rw [h.at z]; rw [z] at e; exact e
section
variable {st : Sto}
theorem zt : opD .add (.int i) (.int j) st = .ok (.int (i + j)) st := by simp only [opD]
theorem Zt : opD .sub (.int i) (.int j) st = .ok (.int (i - j)) st := by simp only [opD]
theorem Na (h : Et i j) : opD .mul (.int i) (.int j) st = .ok (.int (i * j)) st := by simp only [opD]; rw [if_pos h]
theorem zu (h : fg j) : opD .fdiv (.int i) (.int j) st = .ok (.int (i.fdiv j)) st := by simp only [opD]; rw [if_pos h]
theorem Zu (h : j ≠ 0) : opD .mod (.int i) (.int j) st = .ok (.int (i.fmod j)) st := by simp only [opD]; rw [if_pos h]
theorem Zv (h : Hz i j) : opD .pow (.int i) (.int j) st = .ok (.int (i ^ j.toNat)) st := by simp only [opD]; rw [if_pos h]
theorem Zw (hn : st[n]? = some (.lst xs)) (hm : st[m]? = some (.lst ys)) (h : xs.length + ys.length ≤ sizeLine) : opD .add (.loc n) (.loc m) st = .ok (.loc st.length) (st ++ [.lst (xs ++ ys)]) := by
 simp only [opD, hn, hm]; rw [if_pos h]
theorem zx : cmD .eq (.int i) (.int j) st = .ok (.bl (decide (i = j))) st := by simp [cmD, eqV, Ah, PyData.eqv] <;> rfl
theorem Rg : cmD .ne (.int i) (.int j) st = .ok (.bl (!decide (i = j))) st := by simp [cmD, eqV, Ah, PyData.eqv] <;> rfl
theorem Zx : cmD .lt (.int i) (.int j) st = .ok (.bl (decide (i < j))) st := by simp only [cmD]
theorem zy : cmD .le (.int i) (.int j) st = .ok (.bl (decide (i ≤ j))) st := by simp only [cmD]
theorem Zy : cmD .gt (.int i) (.int j) st = .ok (.bl (decide (j < i))) st := by simp only [cmD]
theorem zz : cmD .ge (.int i) (.int j) st = .ok (.bl (decide (j ≤ i))) st := by simp only [cmD]
theorem Zz : btD .intB [.bl b] st = .ok (.int (if b then 1 else 0)) st := by simp only [btD]
theorem aaa : btD .lenB [.tup xs] st = .ok (.int xs.length) st := by simp only [btD]
theorem aab (h : af st n = some xs) : btD .lenB [.loc n] st = .ok (.int xs.length) st := by simp only [btD, h]
theorem aac (e : L2.atI xs i = some d) : ixD (.tup xs) (.int i) st = .ok d st := by simp only [ixD, ixS, Cn, atD, e]
theorem aad : ixD (.tup xs) (.int i) st = match L2.atI xs i with | some d => .ok d st | none => .bad := by simp only [ixD, ixS, Cn, atD] <;> rfl
theorem Gv (h : af st n = some xs) : Az st n = none ∧ dt st n = none := by
 unfold af at h; unfold Az dt
 cases z : st[n]? with
 | none => exact ⟨rfl, rfl⟩
 | some c => rw [z] at h; cases c <;> first | exact ⟨rfl, rfl⟩ | cases h
theorem aae (h : af st n = some xs) (e : L2.atI xs i = some d) : ixD (.loc n) (.int i) st = .ok d st := by
 simp only [ixD, (Gv h).1, (Gv h).2, ixS, Cn, h, atD, e]
end
section
variable {t : Nat → Ty → Option Bool} {call : Or} {env : DD.Env} {st : Sto}
theorem aaf : Aa t call (.var i) env st = match bw env i with | some d => .ok d st | none => .bad := by simp only [Aa] <;> rfl
theorem rh (h : bw env i = some d) : Aa t call (.var i) env st = .ok d st := by rw [aaf, h]
theorem aag (h : Aa t call e env st = .ok d s1) : ag t call F (.cons (.ret e) r) env st = .ok (.ret d) s1 := by
 rw [gv, Rb, h, ay, ay]
theorem aah : fin (.ok (.ret d) s) = .ok d s := rfl
theorem aai : Aa t call (.cst d) env st = .ok d st := by simp only [Aa]
end
theorem gg0 {st m : Sto} : (st ++ m)[st.length]? = m[0]? := by
 rw [List.getElem?_append_right (by omega)]; congr 1; omega
theorem gf : ∀ {n m : Nat} {d : D}, okN n d = true → n ≤ m → Ah st m d = some (pyN n d)
 | n, m, .int i, _, _ => by cases m <;> cases n <;> simp [Ah, pyN]
 | n, m, .str x, h, _ => by
  have h2 : PyData.canLay0 (.str x) = true := by cases n <;> simpa [okN] using h
  cases m <;> cases n <;> simp [Ah, pyN, h2]
 | 0, m, .tup ds, h, _ => by simp [okN] at h
 | n + 1, 0, .tup ds, _, h => by omega
 | n + 1, m + 1, .tup ds, h, hm => by
  have all : ∀ ds : List D, ds.all (okN n) = true → Bh (ds.map (Ah st m)) = some (ds.map (pyN n)) := by
   intro ds
   induction ds with
   | nil => intro _ <;> rfl
   | cons d r ih =>
    intro h
    simp only [List.all_cons, Bool.and_eq_true] at h
    simp only [List.map_cons, gf h.1 (by omega : n ≤ m), Bh, ih h.2, Option.map_some]
  have h : ds.all (okN n) = true := by simpa [okN] using h
  simp only [Ah, all ds h, Option.map_some, pyN]
 | n, m, .non, h, _ => by cases n <;> simp [okN] at h
 | n, m, .bl b, h, _ => by cases n <;> simp [okN] at h
 | n, m, .loc b, h, _ => by cases n <;> simp [okN] at h
theorem Rh : ∀ {n : Nat} {x y : D}, okN n x = true → okN n y = true → PyData.eqv (pyN n x) (pyN n y) = decide (x = y) := by
 intro n
 induction n with
 | zero =>
  intro x y h1 h2
  cases x <;> simp [okN] at h1 <;> cases y <;> simp [okN] at h2 <;> simp [pyN, PyData.eqv] <;> (first | rfl | exact Bool.beq_eq_decide_eq _ _)
 | succ n ih =>
  intro x y h1 h2
  cases x with
  | int i => cases y <;> simp [okN] at h2 <;> simp [pyN, PyData.eqv] <;> rfl
  | str i => cases y <;> simp [okN] at h2 <;> simp [pyN, PyData.eqv] <;> rfl
  | tup ds =>
   cases y with
   | int i => simp [pyN, PyData.eqv]
   | str i => simp [pyN, PyData.eqv]
   | tup es =>
    have all : ∀ ds es : List D, ds.all (okN n) = true → es.all (okN n) = true → PyData.eqvAll (ds.map (pyN n)) (es.map (pyN n)) = decide (ds = es) := by
     intro ds
     induction ds with
     | nil => intro es _ _; cases es <;> simp [PyData.eqvAll]
     | cons d r ih2 =>
      intro es h1 h2
      cases es with
      | nil => simp [PyData.eqvAll]
      | cons e t =>
       simp only [List.all_cons, Bool.and_eq_true] at h1 h2
       simp only [List.map_cons, PyData.eqvAll, ih h1.1 h2.1, ih2 t h1.2 h2.2, List.cons.injEq, Bool.decide_and]
    simp only [pyN, PyData.eqv, all ds es (by simpa [okN] using h1) (by simpa [okN] using h2)]
    simp
   | _ => simp [okN] at h2
  | _ => simp [okN] at h1
theorem Nb (hm : n ≤ m) : ∀ ds : List D, ds.all (okN n) = true → Bh (ds.map (Ah st m)) = some (ds.map (pyN n))
 | [], _ => rfl
 | d :: r, h => by
  simp only [List.all_cons, Bool.and_eq_true] at h
  simp only [List.map_cons, gf h.1 hm, Bh, Nb hm r h.2, Option.map_some]
theorem nc (ha : okN n a = true) : ∀ xs : List D, xs.all (okN n) = true → ((xs.map (pyN n)).any fun y => PyData.eqv y (pyN n a)) = decide (a ∈ xs)
 | [], _ => by simp
 | d :: r, h => by
  simp only [List.all_cons, Bool.and_eq_true] at h
  simp only [List.map_cons, List.any_cons, Rh h.1 ha, nc ha r h.2, List.mem_cons, Bool.decide_or]
  congr 1
  simp only [eq_comm]
section
variable {st : Sto} {n : Nat} {a b : D} {xs ys : List D}
theorem aaj (ha : okN 40 a = true) (hx : xs.all (okN 40) = true) : cmD .inL a (.tup xs) st = .ok (.bl (decide (a ∈ xs))) st := by
 simp only [cmD, inD, inS, gf ha (Nat.le_refl _), gf (n := 41) (m := 41) (d := .tup xs) (by simpa [okN] using hx) (Nat.le_refl _), pyN, nc ha xs hx]
theorem aak (h : af st l = some xs) (ha : okN 40 a = true) (hx : xs.all (okN 40) = true) : inD st a (.loc l) = some (decide (a ∈ xs)) := by
 simp only [inD, (Gv h).1, (Gv h).2, inS, gf ha (Nat.le_refl _), Ah, h, Option.bind_some, Nb (Nat.le_refl 40) xs hx, Option.map_some, nc ha xs hx]
theorem aal (h : af st l = some xs) (ha : okN 40 a = true) (hx : xs.all (okN 40) = true) : cmD .inL a (.loc l) st = .ok (.bl (decide (a ∈ xs))) st := by
 simp only [cmD, aak h ha hx]
end
theorem An (h : st[n]? = some (.lst xs)) : af st n = some xs := by simp only [af, h]
theorem Fr.keep {a b : Sto} (h : Fr a b) {n : Nat} {c : Cell} (e : a[n]? = some c) : b[n]? = some c := h.at e
theorem Ri {st0 : Sto} {all xs : List D} {p : Option Nat} {body : D → Sto → Res (Option D)} {f : D → Option D} (hl : xs.length ≤ sizeLine) (hs : ∀ s, Fr st0 s → stays s p all = true)
    (hb : ∀ d ∈ xs, ∀ s, Fr st0 s → ∃ s', body d s = .ok (f d) s' ∧ Fr s s') :
    ∃ st', compLoop all p st0.length body xs (st0 ++ [.lst []]) = .ok () st' ∧ Fr st0 st' ∧ st'[st0.length]? = some (.lst (xs.filterMap f)) := by
  obtain ⟨s', e, J, y⟩ := Mz (all := all) (p := p) (n0 := st0.length) (body := body) (f := f) (J := Fr st0) hs (fun s ys h => h.set (Nat.le_refl _) _) xs [] (st0 ++ [.lst []]) (.app _) (by simp) (by simpa using hl) (fun d hd s ys hJ hn => by
    obtain ⟨s', e, F⟩ := hb d hd s hJ
    exact ⟨s', e, hJ.trans F, F.at hn⟩)
  exact ⟨s', e, J, by simpa using y⟩
theorem Im {α : Type} (g : α → Bool) : ∀ xs : List α, Dg (xs.map fun d => D.bl (g d)) = some (xs.map g)
 | [] => rfl
 | x :: r => by simp only [List.map_cons, Dg, Im g r, Option.map_some]
theorem Di {α β : Type} (g : α → β) (xs : List α) : xs.filterMap (fun x => some (g x)) = xs.map g := by
 induction xs with
 | nil => rfl
 | cons x r ih => simp [List.filterMap_cons, ih]
theorem Ft (h : af st0 n = some xs) (F : Fr st0 s) : stays s (some n) xs = true := by simp only [stays, F.lst h, decide_true]
theorem Nc {xs : List D} {k : Nat} : cutD xs none (some (k : Int)) = xs.take k := by
 unfold cutD
 rw [HT.Pg, HT.jj]
 simp only [List.drop_zero, Nat.sub_zero]
 rw [List.take_eq_take_iff]
 omega
end DD
namespace DD
open PySem L2
def Wr {α : Type} (r : Res α) (Q : α → Sto → Prop) : Prop := ∃ a s, r = .ok a s ∧ Q a s
section
variable {α β : Type} {r : Res α} {Q P : α → Sto → Prop} {a : α} {s : Sto}
theorem aq (h : Q a s) : Wr (.ok a s) Q := ⟨a, s, rfl, h⟩
theorem rj (e : r = .ok a s) (h : Q a s) : Wr r Q := ⟨a, s, e, h⟩
theorem Wr.imp (h : Wr r P) (g : ∀ a s, P a s → Q a s) : Wr r Q := by
 obtain ⟨a, s, e, p⟩ := h
 exact ⟨a, s, e, g a s p⟩
theorem Ae (h : Wr r fun a s => Wr (f a s) R) : Wr (r.bind f) R := by
 obtain ⟨a, s, rfl, p⟩ := h
 exact p
theorem ck (h : A) : ((true = true → A) ∧ (true = false → B)) := ⟨fun _ => h, fun h => by cases h⟩
theorem Dv (h : B) : ((false = true → A) ∧ (false = false → B)) := ⟨(fun h => by cases h), fun _ => h⟩
end
section
variable {t : Nat → Ty → Option Bool} {call : Or} {F : Nat} {env : DD.Env} {st : Sto} {Q : D → Sto → Prop} {QL : List D → Sto → Prop} {QB : Bool → Sto → Prop} {QF : Fl → Sto → Prop}
theorem w_var (h : bw env i = some d) (q : Q d st) : Wr (Aa t call (.var i) env st) Q := ⟨d, st, rh h, q⟩
theorem Cu (q : Q d st) : Wr (Aa t call (.cst d) env st) Q := ⟨d, st, aai, q⟩
theorem dw (q : QL [] st) : Wr (Ap t call .nil env st) QL := ⟨[], st, by rw [Ap], q⟩
theorem Ea (h : Wr (Aa t call e env st) fun d s => Wr (Ap t call es env s) fun ds s => QL (d :: ds) s) : Wr (Ap t call (.cons e es) env st) QL := by
 rw [Ap]
 exact Ae (h.imp fun d s h => Ae (h.imp fun ds s h => aq h))
theorem aam (q : QL [] st) : Wr (du t call .nil env st) QL := ⟨[], st, by rw [du], q⟩
theorem aan (h : Wr (Aa t call e env st) fun d s => ∃ i, d = .int i ∧ Wr (du t call es env s) fun ds s => QL (.int i :: ds) s) : Wr (du t call (.cons e es) env st) QL := by
 rw [du]
 refine Ae (h.imp fun d s h => ?_)
 obtain ⟨i, rfl, h⟩ := h
 exact Ae (h.imp fun ds s h => aq h)
theorem Nd (h : Wr (Ap t call es env st) fun ds s => ds.length ≤ sizeLine ∧ Q (.tup ds) s) : Wr (Aa t call (.tupE es) env st) Q := by
 rw [Aa]
 refine Ae (h.imp fun ds s h => ?_)
 rw [if_pos h.1]; exact aq h.2
theorem aao (h : Wr (Ap t call es env st) fun ds s => ds.length ≤ sizeLine ∧ Q (.loc s.length) (s ++ [.lst ds])) : Wr (Aa t call (.lstE es) env st) Q := by
 rw [Aa]
 refine Ae (h.imp fun ds s h => ?_)
 rw [if_pos h.1]; exact aq h.2
theorem Io (h : Wr (Aa t call a env st) fun x s => Wr (Aa t call b env s) fun y s => Wr (opD o x y s) Q) : Wr (Aa t call (.op o a b) env st) Q := by
 rw [Aa]
 exact Ae (h.imp fun _ _ h => Ae h)
theorem aap (h : Wr (Aa t call a env st) fun x s => ∃ i, x = .int i ∧ Q (.int (-i)) s) : Wr (Aa t call (.neg a) env st) Q := by
 rw [Aa]
 refine Ae (h.imp fun _ _ h => ?_)
 obtain ⟨i, rfl, h⟩ := h
 exact aq h
theorem aaq (h : Wr (Aa t call a env st) fun x s => Wr (Aa t call b env s) fun y s => Wr (cmD o x y s) Q) : Wr (Aa t call (.cm o a b) env st) Q := by
 rw [Aa]
 exact Ae (h.imp fun _ _ h => Ae h)
theorem w_and (h : Wr (Aa t call a env st) fun x s => ∃ c, x = .bl c ∧ (c = true → Wr (Aa t call b env s) Q) ∧ (c = false → Q (.bl false) s)) : Wr (Aa t call (.andE a b) env st) Q := by
 rw [Aa]
 refine Ae (h.imp fun _ _ h => ?_)
 obtain ⟨c, rfl, h1, h2⟩ := h
 cases c with
 | true => exact h1 rfl
 | false => exact aq (h2 rfl)
theorem w_or (h : Wr (Aa t call a env st) fun x s => ∃ c, x = .bl c ∧ (c = true → Q (.bl true) s) ∧ (c = false → Wr (Aa t call b env s) Q)) : Wr (Aa t call (.orE a b) env st) Q := by
 rw [Aa]
 refine Ae (h.imp fun _ _ h => ?_)
 obtain ⟨c, rfl, h1, h2⟩ := h
 cases c with
 | true => exact aq (h1 rfl)
 | false => exact h2 rfl
theorem w_not (h : Wr (Aa t call a env st) fun x s => ∃ c, x = .bl c ∧ Q (.bl (!c)) s) : Wr (Aa t call (.notE a) env st) Q := by
 rw [Aa]
 refine Ae (h.imp fun _ _ h => ?_)
 obtain ⟨c, rfl, h1⟩ := h
 exact aq h1
theorem aar (h : Wr (Aj t call c env st) fun x s => (x = true → Wr (Aa t call a env s) Q) ∧ (x = false → Wr (Aa t call b env s) Q)) : Wr (Aa t call (.ifE c a b) env st) Q := by
 rw [Aa]
 refine Ae (h.imp fun x _ h => ?_)
 cases x with
 | true => exact h.1 rfl
 | false => exact h.2 rfl
theorem aas (h : Wr (Ap t call es env st) fun ds s => Wr (call f (ds ++ dv) s) Q) : Wr (Aa t call (.call f es dv) env st) Q := by
 rw [Aa]; exact Ae h
theorem Jw (h : Wr (Ap t call es env st) fun ds s => Wr (btD f ds s) Q) : Wr (Aa t call (.bt f es) env st) Q := by
 rw [Aa]; exact Ae h
theorem aat (h : Wr (Aa t call a env st) fun x s => Wr (Aa t call b env s) fun y s => Wr (ixD x y s) Q) : Wr (Aa t call (.ix a b) env st) Q := by
 rw [Aa]
 exact Ae (h.imp fun _ _ h => Ae h)
theorem aau (h : Wr (Aa t call a env st) fun x s => ∃ u c, Bn s x = some u ∧ cg t u ty = some c ∧ Q (.bl c) s) : Wr (Aa t call (.isi a ty) env st) Q := by
 rw [Aa]
 refine Ae (h.imp fun x s h => ?_)
 obtain ⟨u, c, h1, h2, h3⟩ := h
 rw [h1, Option.bind_some, h2]; exact aq h3
theorem aav (h : Q (.loc st.length) (st ++ [.dct []])) : Wr (Aa t call .dnew env st) Q := by rw [Aa]; exact aq h
theorem aaw (h : Q (.loc st.length) (st ++ [.dcn []])) : Wr (Aa t call .dnewN env st) Q := by rw [Aa]; exact aq h
theorem aax (h : Wr (Aa t call a env st) fun x s => Wr (du t call es env s) fun ds s => Wr (slD k x ds s) Q) : Wr (Aa t call (.sl k a es) env st) Q := by
 rw [Aa]
 exact Ae (h.imp fun _ _ h => Ae h)
theorem aay (h : Wr (Aa t call a env st) fun x s => Wr (Aa t call b env s) fun y s => Wr (cmD c1 x y s) fun z s => ∃ v, z = .bl v ∧ (v = true → Wr (Aa t call c env s) fun w s => Wr (cmD c2 y w s) Q) ∧ (v = false → Q (.bl false) s)) : Wr (Aa t call (.chn c1 c2 a b c) env st) Q := by
 rw [Aa]
 refine Ae (h.imp fun x _ h => Ae (h.imp fun y _ h => Ae (h.imp fun z s h => ?_)))
 obtain ⟨v, rfl, h1, h2⟩ := h
 cases v with
 | true => exact Ae (h1 rfl)
 | false => exact aq (h2 rfl)
theorem w_fld (h : Wr (Aa t call o env st) fun x s => ∃ n fs d, x = .loc n ∧ s[n]? = some (.ins c fs) ∧ fs.lookup f = some d ∧ Q d s) : Wr (Aa t call (.fld c o f) env st) Q := by
 rw [Aa]
 refine Ae (h.imp fun x s h => ?_)
 obtain ⟨n, fs, d, rfl, h1, h2, h3⟩ := h
 simp only [h1, h2, if_true]
 exact aq h3
theorem w_mk (h : Wr (Ap t call es env st) fun ds s => Wr (call f (.loc s.length :: ds) (s ++ [.ins c []])) fun r s' => r = .non ∧ Q (.loc s.length) s') : Wr (Aa t call (.mk c f es) env st) Q := by
 rw [Aa]
 refine Ae (h.imp fun ds s h => Ae (h.imp fun r s' h => ?_))
 obtain ⟨rfl, h⟩ := h
 exact aq h
theorem aaz (h : Wr (Aa t call o env st) fun x s => ∃ n fs, x = .loc n ∧ s[n]? = some (.ins c fs) ∧ fs.lookup m = none ∧ Wr (Ap t call es env s) fun ds s => Wr (call f (.loc n :: ds) s) Q) : Wr (Aa t call (.Ka c f m o es) env st) Q := by
 rw [Aa]
 refine Ae (h.imp fun x s h => ?_)
 obtain ⟨n, fs, rfl, h1, h2, h3⟩ := h
 simp only [h1, h2, and_self, if_true]
 exact Ae h3
theorem Rj (h : Wr (Aa t call o env st) fun x s => rdy m s x = true ∧ Wr (Ap t call es env s) fun ds s => Wr (mtD m x ds s) Q) : Wr (Aa t call (.mt m o es) env st) Q := by
 rw [Aa]
 refine Ae (h.imp fun x s h => ?_)
 rw [if_pos h.1]; exact Ae h.2
theorem aba (h : Wr (Aj t call a env st) fun x s => (x = true → Wr (Aj t call b env s) QB) ∧ (x = false → QB false s)) : Wr (Aj t call (.andE a b) env st) QB := by
 rw [Aj]
 refine Ae (h.imp fun x _ h => ?_)
 cases x with
 | true => exact h.1 rfl
 | false => exact aq (h.2 rfl)
theorem Rk (h : Wr (Aj t call a env st) fun x s => (x = true → QB true s) ∧ (x = false → Wr (Aj t call b env s) QB)) : Wr (Aj t call (.orE a b) env st) QB := by
 rw [Aj]
 refine Ae (h.imp fun x _ h => ?_)
 cases x with
 | true => exact aq (h.1 rfl)
 | false => exact h.2 rfl
theorem Nf (h : Wr (Aj t call a env st) fun x s => QB (!x) s) : Wr (Aj t call (.notE a) env st) QB := by
 rw [Aj]
 exact Ae (h.imp fun x _ h => aq h)
theorem fu (h : Wr (Aa t call a env st) fun x s => Wr (Aa t call b env s) fun y s => Wr (cmD o x y s) fun d s => ∃ c, d = .bl c ∧ QB c s) : Wr (Aj t call (.cm o a b) env st) QB := by
 rw [Aj]
 refine Ae (h.imp fun _ _ h => Ae (h.imp fun _ _ h => Ae (h.imp fun d s h => ?_)))
 obtain ⟨c, rfl, h⟩ := h
 exact aq h
theorem abb (h : Wr (Ap t call es env st) fun ds s => Wr (call f (ds ++ dv) s) fun d s => ∃ c, truth s d = some c ∧ QB c s) : Wr (Aj t call (.call f es dv) env st) QB := by
 rw [Aj]
 refine Ae (h.imp fun _ _ h => Ae (h.imp fun d s h => ?_))
 obtain ⟨c, h1, h⟩ := h
 simp only [h1]
 exact aq h
theorem Rl (h : Wr (Ap t call es env st) fun ds s => Wr (btD f ds s) fun d s => ∃ c, truth s d = some c ∧ QB c s) : Wr (Aj t call (.bt f es) env st) QB := by
 rw [Aj]
 refine Ae (h.imp fun _ _ h => Ae (h.imp fun d s h => ?_))
 obtain ⟨c, h1, h⟩ := h
 simp only [h1]
 exact aq h
theorem abd (h : Wr (Aa t call a env st) fun x s => Wr (Aa t call b env s) fun y s => Wr (ixD x y s) fun d s => ∃ c, truth s d = some c ∧ QB c s) : Wr (Aj t call (.ix a b) env st) QB := by
 rw [Aj]
 refine Ae (h.imp fun _ _ h => Ae (h.imp fun _ _ h => Ae (h.imp fun d s h => ?_)))
 obtain ⟨c, h1, h⟩ := h
 simp only [h1]
 exact aq h
theorem Rm (h : Wr (Aa t call a env st) fun x s => ∃ u c, Bn s x = some u ∧ cg t u ty = some c ∧ QB c s) : Wr (Aj t call (.isi a ty) env st) QB := by
 rw [Aj]
 refine Ae (h.imp fun x s h => ?_)
 obtain ⟨u, c, h1, h2, h3⟩ := h
 rw [h1, Option.bind_some, h2]; exact aq h3
theorem abe (h : Wr (Aa t call a env st) fun x s => Wr (Aa t call b env s) fun y s => Wr (cmD c1 x y s) fun z s => ∃ v, z = .bl v ∧ (v = true → Wr (Aa t call c env s) fun w s => Wr (cmD c2 y w s) fun d s => ∃ c, d = .bl c ∧ QB c s) ∧ (v = false → QB false s)) : Wr (Aj t call (.chn c1 c2 a b c) env st) QB := by
 rw [Aj]
 refine Ae (h.imp fun x _ h => Ae (h.imp fun y _ h => Ae (h.imp fun z s h => ?_)))
 obtain ⟨v, rfl, h1, h2⟩ := h
 cases v with
 | true =>
  refine Ae ((h1 rfl).imp fun _ _ h => Ae (h.imp fun d s h => ?_))
  obtain ⟨c, rfl, h⟩ := h
  exact aq h
 | false => exact aq (h2 rfl)
theorem abf (h : QB true st) : Wr (Bj t call .nil env st) QB := by rw [Bj]; exact aq h
theorem abg (h : Wr (Aj t call c env st) fun x s => (x = true → Wr (Bj t call r env s) QB) ∧ (x = false → QB false s)) : Wr (Bj t call (.cons c r) env st) QB := by
 rw [Bj]
 refine Ae (h.imp fun x s h => ?_)
 cases x with
 | true => exact h.1 rfl
 | false => exact aq (h.2 rfl)
def Kt (t : Nat → Ty → Option Bool) (call : Or) (F : Nat) (r : Ss) (Q : Fl → Sto → Prop) (f : Fl) (s : Sto) : Prop := match f with
 | .next env' => Wr (ag t call F r env' s) Q
 | f => Q f s
theorem Ez (h : QF (.next env) st) : Wr (ag t call F .nil env st) QF := ⟨_, _, ft, h⟩
theorem Be (h : Wr (ai t call F c env st) (Kt t call F r QF)) : Wr (ag t call F (.cons c r) env st) QF := by
 rw [gv]
 refine Ae (h.imp fun f s h => ?_)
 cases f <;> first | exact h | exact aq h
theorem bh (h : Wr (ag t call F r env st) QF) : Kt t call F r QF (.next env) st := h
theorem Gf (h : QF (.ret d) st) : Kt t call F r QF (.ret d) st := h
theorem dj (h : Wr (Aa t call e env st) fun d s => i < env.length ∧ QF (.next (env.set i (some d))) s) : Wr (ai t call F (.set i e) env st) QF := by
 rw [Zp]
 refine Ae (h.imp fun d s h => ?_)
 rw [if_pos h.1]; exact aq h.2
theorem abh (h : Wr (Aa t call e env st) fun d s => ∃ env', store is false d env = some env' ∧ QF (.next env') s) : Wr (ai t call F (.unp is e) env st) QF := by
 rw [zq]
 refine Ae (h.imp fun d s h => ?_)
 obtain ⟨env', h1, h⟩ := h
 simp only [h1]; exact aq h
theorem abi (h : Wr (Aa t call e env st) fun d s => ∃ n ds env', d = .loc n ∧ af s n = some ds ∧ br is ds env = some env' ∧ QF (.next env') s) : Wr (ai t call F (.unpL is e) env st) QF := by
 rw [ai]
 refine Ae (h.imp fun d s h => ?_)
 obtain ⟨n, ds, env', rfl, h1, h2, h⟩ := h
 simp only [h1, h2]; exact aq h
theorem abj (h : Wr (Aa t call a env st) fun x s => Wr (Aa t call b env s) fun y s => (i < env.length ∧ j < env.length) ∧ QF (.next ((env.set i (some x)).set j (some y))) s) : Wr (ai t call F (.par i j a b) env st) QF := by
 rw [Zq]
 refine Ae (h.imp fun d s h => Ae (h.imp fun d s h => ?_))
 rw [if_pos h.1]; exact aq h.2
theorem abk (hx : bw env i = some (.int x)) (h : Wr (Aa t call e env st) fun y s => ∃ j, y = .int j ∧ Wr (opD o (.int x) (.int j) s) fun z s => i < env.length ∧ QF (.next (env.set i (some z))) s) : Wr (ai t call F (.aug i o e) env st) QF := by
 rw [ai, hx]
 refine Ae (h.imp fun d s h => ?_)
 obtain ⟨j, rfl, h⟩ := h
 refine Ae (h.imp fun d s h => ?_)
 rw [if_pos h.1]; exact aq h.2
theorem Fu (h : Wr (Aj t call c env st) fun x s => (x = true → Wr (ag t call F a env s) QF) ∧ (x = false → Wr (ag t call F b env s) QF)) : Wr (ai t call F (.ifS c a b) env st) QF := by
 rw [my]
 refine Ae (h.imp fun x s h => ?_)
 cases x with
 | true => exact h.1 rfl
 | false => exact h.2 rfl
theorem gw (h : Wr (Aa t call e env st) fun d s => QF (.ret d) s) : Wr (ai t call F (.ret e) env st) QF := by
 rw [Rb]; exact Ae (h.imp fun d s h => aq h)
theorem rn (h : Wr (Aa t call e env st) fun d s => QF (.next env) s) : Wr (ai t call F (.ex e) env st) QF := by
 rw [Rc]; exact Ae (h.imp fun d s h => aq h)
theorem ng (h : Wr (Aa t call e env st) fun y s => Wr (Aa t call o env s) fun x s => ∃ n fs, x = .loc n ∧ s[n]? = some (.ins c fs) ∧ fs.length < 900 ∧ QF (.next env) (s.set n (.ins c (Ct f y fs)))) : Wr (ai t call F (.setf c o f e) env st) QF := by
 rw [ai]
 refine Ae (h.imp fun y s h => Ae (h.imp fun x s h => ?_))
 obtain ⟨n, fs, rfl, h1, h2, h3⟩ := h
 simp only [h1, h2, and_self, if_true]
 exact aq h3
theorem Rn {tg : List Nat} {one k : Bool} {it : E} {b : Ss} (h : Wr (Aa t call it env st) fun d s => ∃ xs p, fh k s d = some (xs, p) ∧ Wr (forLoop xs p (turn t call F tg one b) xs env s) QF) : Wr (ai t call F (.forS tg one k it b) env st) QF := by
 rw [Rf]
 refine Ae (h.imp fun d s h => ?_)
 obtain ⟨xs, p, h1, h⟩ := h
 simp only [h1]; exact h
theorem abl {tg : List Nat} {es : Es} {b : Ss} (h : Wr (Ap t call es env st) fun ds s => ∃ xs, Dt ds = some xs ∧ Wr (forLoop xs none (turn t call F tg true b) xs env s) QF) : Wr (ai t call F (.forR tg es b) env st) QF := by
 rw [Zs]
 refine Ae (h.imp fun d s h => ?_)
 obtain ⟨xs, h1, h⟩ := h
 simp only [h1]; exact h
theorem jx {tg : List Nat} {one : Bool} {b : Ss} {d : D} {env' : DD.Env} (h : store tg one d env = some env') (w : Wr (ag t call F b env' st) QF) : Wr (turn t call F tg one b d env st) QF := by
 rw [rf h]; exact w
theorem Jx {xs : List D} {p : Option Nat} {body : D → DD.Env → Sto → Res Fl} (J : Nat → DD.Env → Sto → Prop) (hs : ∀ i env st, J i env st → stays st p xs = true) (h0 : J 0 env st)
    (ht : ∀ (j : Nat) (d : D), xs[j]? = some d → ∀ env st, J j env st → Wr (body d env st) fun f s => ∃ env', f = .next env' ∧ J (j + 1) env' s)
    (q : ∀ env s, J xs.length env s → QF (.next env) s) : Wr (forLoop xs p body xs env st) QF := by
  obtain ⟨env', s, e, j⟩ := rg hs xs 0 env st h0 fun j d hd env st hj => by
    rw [Nat.zero_add] at hj
    obtain ⟨f, s, e, env', rfl, j⟩ := ht j d hd env st hj
    exact ⟨env', s, e, by rwa [Nat.zero_add]⟩
  rw [Nat.zero_add] at j
  exact ⟨_, _, e, q _ _ j⟩
theorem Fv {tg : List Nat} {one : Bool} {ifs : Es} {elt : E} {d : D} {env' : DD.Env} {QO : Option D → Sto → Prop} (h : store tg one d env = some env') (w : Wr (Bj t call ifs env' st) fun b s => (b = true → Wr (Aa t call elt env' s) fun y s => QO (some y) s) ∧ (b = false → QO none s)) : Wr (Ge t call tg one env ifs elt d st) QO := by
 unfold Ge
 simp only [h]
 refine Ae (w.imp fun b s h => ?_)
 cases b with
 | true => exact Ae ((h.1 rfl).imp fun y s h => aq h)
 | false => exact aq (h.2 rfl)
theorem Ng {k nl : Nat} {one : Bool} {tg fv : List Nat} {it elt : E} {ifs : Es}
    (h : Wr (Aa t call it env st) fun d s => ∃ xs p, ∃ f : D → Option D, Bi k s d = some (xs, p) ∧ xs.length ≤ sizeLine ∧ (∀ s', Fr s s' → stays s' p xs = true) ∧
      (∀ d ∈ xs, ∀ s', Fr s s' → Wr (Ge t call tg one (bj nl fv env) ifs elt d s') fun r s2 => r = f d ∧ Fr s' s2) ∧
      ∀ s', Fr s s' → s'[s.length]? = some (.lst (xs.filterMap f)) → Q (.loc s.length) s') : Wr (Aa t call (.comp k one nl tg fv it ifs elt) env st) Q := by
  obtain ⟨d, s, e, xs, p, f, hi, hl, hs, hb, q⟩ := h
  rw [mz e hi]
  obtain ⟨s', e2, F, y⟩ := Ri (all := xs) (xs := xs) (p := p) (f := f) hl hs fun d hd s2 F => by
    obtain ⟨r, s3, e3, rfl, F3⟩ := hb d hd s2 F
    exact ⟨s3, e3, F3⟩
  rw [e2]
  exact aq (q s' F y)
theorem nh {all : List D} {p : Option Nat} {n0 : Nat} {body : D → Sto → Res (Option D)} {J : Nat → List D → Sto → Prop} (hs : ∀ i ys st, J i ys st → stays st p all = true) :
    ∀ (xs : List D) (i : Nat) (ys : List D) (st : Sto), J i ys st → st[n0]? = some (.lst ys) → ys.length + xs.length ≤ sizeLine →
    (∀ (j : Nat) (d : D), xs[j]? = some d → ∀ st ys, J (i + j) ys st → st[n0]? = some (.lst ys) → Wr (body d st) fun r s => s[n0]? = some (.lst ys) ∧ ((∃ y, r = some y ∧ J (i + j + 1) (ys ++ [y]) (s.set n0 (.lst (ys ++ [y])))) ∨ (r = none ∧ J (i + j + 1) ys s))) →
    ∃ st' ys', compLoop all p n0 body xs st = .ok () st' ∧ J (i + xs.length) ys' st' ∧ st'[n0]? = some (.lst ys')
  | [], i, ys, st, h, hy, _, _ => ⟨st, ys, by simp only [compLoop]; rw [if_pos (hs _ _ _ h)], h, hy⟩
  | d :: r, i, ys, st, h, hy, hl, hb => by
    obtain ⟨a, s1, e1, y1, g⟩ := hb 0 d rfl st ys h hy
    have hb' : ∀ (j : Nat) (d : D), r[j]? = some d → ∀ st ys, J (i + 1 + j) ys st → st[n0]? = some (.lst ys) → Wr (body d st) fun r s => s[n0]? = some (.lst ys) ∧ ((∃ y, r = some y ∧ J (i + 1 + j + 1) (ys ++ [y]) (s.set n0 (.lst (ys ++ [y])))) ∨ (r = none ∧ J (i + 1 + j + 1) ys s)) := fun j x hx st ys hj hy => by
      have := hb (j + 1) x (by simpa using hx) st ys (by rwa [show i + (j + 1) = i + 1 + j by omega]) hy
      rwa [show i + (j + 1) + 1 = i + 1 + j + 1 by omega] at this
    have hl2 : ys.length < sizeLine := by simp at hl; omega
    simp only [compLoop]
    rw [if_pos (hs _ _ _ h), e1]
    rcases g with ⟨y, rfl, g⟩ | ⟨rfl, g⟩
    · obtain ⟨s2, ys2, e2, j2, y2⟩ := nh hs r (i + 1) (ys ++ [y]) _ g (Dz y1 _) (by simp at hl ⊢; omega) hb'
      refine ⟨s2, ys2, ?_, by rwa [show i + (d :: r).length = i + 1 + r.length by simp; omega], y2⟩
      simp only [y1, hl2, if_true]
      exact e2
    · obtain ⟨s2, ys2, e2, j2, y2⟩ := nh hs r (i + 1) ys s1 g y1 (by simp at hl ⊢; omega) hb'
      exact ⟨s2, ys2, e2, by rwa [show i + (d :: r).length = i + 1 + r.length by simp; omega], y2⟩
theorem abm {k nl : Nat} {one : Bool} {tg fv : List Nat} {it elt : E} {ifs : Es}
    (h : Wr (Aa t call it env st) fun d s => ∃ xs p, ∃ J : Nat → List D → Sto → Prop, Bi k s d = some (xs, p) ∧ xs.length ≤ sizeLine ∧ (∀ i ys s', J i ys s' → stays s' p xs = true) ∧ J 0 [] (s ++ [.lst []]) ∧
      (∀ (j : Nat) (d : D), xs[j]? = some d → ∀ s1 ys, J j ys s1 → s1[s.length]? = some (.lst ys) → Wr (Ge t call tg one (bj nl fv env) ifs elt d s1) fun r s2 => s2[s.length]? = some (.lst ys) ∧ ((∃ y, r = some y ∧ J (j + 1) (ys ++ [y]) (s2.set s.length (.lst (ys ++ [y])))) ∨ (r = none ∧ J (j + 1) ys s2))) ∧
      ∀ s' ys, J xs.length ys s' → s'[s.length]? = some (.lst ys) → Q (.loc s.length) s') : Wr (Aa t call (.comp k one nl tg fv it ifs elt) env st) Q := by
  obtain ⟨d, s, e, xs, p, J, hi, hl, hs, h0, hb, q⟩ := h
  rw [mz e hi]
  obtain ⟨s', ys, e2, j2, y2⟩ := nh (all := xs) (p := p) (n0 := s.length) (J := J) hs xs 0 [] (s ++ [.lst []]) h0 (gg0.trans rfl) (by simpa using hl) fun j d hd s1 ys hj hy => by
    rw [Nat.zero_add] at hj ⊢
    exact hb j d hd s1 ys hj hy
  rw [Nat.zero_add] at j2
  rw [e2]
  exact aq (q s' ys j2 y2)
def Gw (t : Nat → Ty → Option Bool) (call : Or) (tg : List Nat) (one : Bool) (env : DD.Env) (ifs : Es) (kx vx : E) (d : D) (st : Sto) : Res (Option (D × D)) := match store tg one d env with
 | some env' => (Bj t call ifs env' st).bind fun b st => if b then (Aa t call kx env' st).bind fun k st => (Aa t call vx env' st).bind fun y st => .ok (some (k, y)) st else .ok none st
 | none => .bad
theorem jy {tg : List Nat} {one : Bool} {ifs : Es} {kx vx : E} {d : D} {env' : DD.Env} {QO : Option (D × D) → Sto → Prop} (h : store tg one d env = some env') (w : Wr (Bj t call ifs env' st) fun b s => (b = true → Wr (Aa t call kx env' s) fun k s => Wr (Aa t call vx env' s) fun y s => QO (some (k, y)) s) ∧ (b = false → QO none s)) : Wr (Gw t call tg one env ifs kx vx d st) QO := by
 unfold Gw
 simp only [h]
 refine Ae (w.imp fun b s h => ?_)
 cases b with
 | true => exact Ae ((h.1 rfl).imp fun k s h => Ae (h.imp fun y s h => aq h))
 | false => exact aq (h.2 rfl)
theorem Nh {all : List D} {p : Option Nat} {n0 : Nat} {body : D → Sto → Res (Option (D × D))} {f : D → Option (D × D)} {J : Sto → Prop} (hs : ∀ st, J st → stays st p all = true) (hset : ∀ st kvs, J st → J (st.set n0 (.dct kvs))) :
    ∀ (xs : List D) (kvs : List (D × D)) (st : Sto), J st → st[n0]? = some (.dct kvs) → kvs.length + xs.length ≤ sizeLine → (∀ d ∈ xs, ∀ k y, f d = some (k, y) → Bv k = true) →
    (∀ d ∈ xs, ∀ st kvs, J st → st[n0]? = some (.dct kvs) → ∃ st', body d st = .ok (f d) st' ∧ J st' ∧ st'[n0]? = some (.dct kvs)) →
    ∃ st', Bg all p n0 body xs st = .ok () st' ∧ J st' ∧ st'[n0]? = some (.dct (cu kvs (xs.filterMap f)))
  | [], kvs, st, h, hy, _, _, _ => ⟨st, by simp only [Bg]; rw [if_pos (hs _ h)], h, by simpa [cu] using hy⟩
  | d :: r, kvs, st, h, hy, hl, hk, hb => by
    obtain ⟨s1, e1, j1, y1⟩ := hb d List.mem_cons_self st kvs h hy
    simp only [Bg]
    rw [if_pos (hs _ h), e1]
    have hl2 : kvs.length < sizeLine := by simp at hl; omega
    cases hf : f d with
    | none =>
      obtain ⟨s2, e2, j2, y2⟩ := Nh hs hset r kvs s1 j1 y1 (by simp at hl ⊢; omega) (fun x hx => hk x (List.mem_cons_of_mem _ hx)) fun x hx => hb x (List.mem_cons_of_mem _ hx)
      exact ⟨s2, e2, j2, by rw [List.filterMap_cons, hf]; exact y2⟩
    | some kv =>
      obtain ⟨k, y⟩ := kv
      have hlen : (bx kvs k y).length ≤ kvs.length + 1 := by unfold bx; split <;> simp
      obtain ⟨s2, e2, j2, y2⟩ := Nh hs hset r (bx kvs k y) (s1.set n0 (.dct (bx kvs k y))) (hset _ _ j1) (Dz y1 _) (by simp at hl ⊢; omega) (fun x hx => hk x (List.mem_cons_of_mem _ hx)) fun x hx => hb x (List.mem_cons_of_mem _ hx)
      refine ⟨s2, ?_, j2, by rw [List.filterMap_cons, hf]; simpa [cu] using y2⟩
      simp only [y1, hl2, hk d List.mem_cons_self k y hf, and_self, if_true]
      exact e2
theorem ni {k nl : Nat} {one : Bool} {tg fv : List Nat} {it kx vx : E} {ifs : Es}
    (h : Wr (Aa t call it env st) fun d s => ∃ xs p, ∃ f : D → Option (D × D), Bi k s d = some (xs, p) ∧ xs.length ≤ sizeLine ∧ (∀ d ∈ xs, ∀ k y, f d = some (k, y) → Bv k = true) ∧ (∀ s', Fr s s' → stays s' p xs = true) ∧
      (∀ d ∈ xs, ∀ s', Fr s s' → Wr (Gw t call tg one (bj nl fv env) ifs kx vx d s') fun r s2 => r = f d ∧ Fr s' s2) ∧
      ∀ s', Fr s s' → s'[s.length]? = some (.dct (cu [] (xs.filterMap f))) → Q (.loc s.length) s') : Wr (Aa t call (.dcomp k one nl tg fv it ifs kx vx) env st) Q := by
  obtain ⟨d, s, e, xs, p, f, hi, hl, hk, hs, hb, q⟩ := h
  rw [Aa, e]
  simp only [ay, hi]
  obtain ⟨s', e2, F, y⟩ := Nh (all := xs) (p := p) (n0 := s.length) (body := Gw t call tg one (bj nl fv env) ifs kx vx) (f := f) (J := Fr s) hs (fun s2 ys h => h.set (Nat.le_refl _) _) xs [] (s ++ [.dct []]) (.app _) (by simp) (by simpa using hl) hk (fun d hd s2 ys hJ hn => by
    obtain ⟨r, s3, e3, rfl, F3⟩ := hb d hd s2 hJ
    exact ⟨s3, e3, hJ.trans F3, F3.at hn⟩)
  show Wr ((Bg xs p s.length (Gw t call tg one (bj nl fv env) ifs kx vx) xs (s ++ [.dct []])).bind fun _ st' => .ok (.loc s.length) st') Q
  rw [e2]
  exact aq (q s' F y)
def Kf (Q : D → Sto → Prop) (f : Fl) (s : Sto) : Prop := match f with
 | .next _ => Q .non s
 | .ret d => Q d s
 | _ => False
theorem abn (h : Q .non st) : Kf Q (.next env) st := h
theorem gx (h : Q d st) : Kf Q (.ret d) st := h
theorem Ce (env : DD.Env) (h : fns[f]? = some ⟨np, nl, b⟩) (hl : args.length = np) (hn : np ≤ nl) (he : args.map some ++ List.replicate (nl - np) none = env) (w : Wr (ag t (Cg t fns F n) F b env st) (Kf Q)) : Wr (Cg t fns F (n + 1) f args st) Q := by
  show Wr (match fns[f]? with
      | some fn => if args.length = fn.np ∧ fn.np ≤ fn.nl then fin (ag t (Cg t fns F n) F fn.body (args.map some ++ List.replicate (fn.nl - fn.np) none) st) else .bad
      | none => .bad) Q
  rw [h]; simp only; rw [if_pos ⟨hl, hn⟩, he]
  unfold fin
  refine Ae (w.imp fun f s h => ?_)
  cases f with
  | next e => exact aq h
  | ret d => exact aq h
  | brk e => exact h.elim
  | cont e => exact h.elim
theorem Jy (h : B) : (((!true) = true → A) ∧ ((!true) = false → B)) := Dv h
theorem jz (h : A) : (((!false) = true → A) ∧ ((!false) = false → B)) := ck h
end
section
variable {st : Sto} {Q : D → Sto → Prop} {i j : Int} {n m : Nat} {xs ys : List D} {kvs : List (D × D)} {d k : D}
theorem abo (h : Q (.int (i + j)) st) : Wr (opD .add (.int i) (.int j) st) Q := ⟨_, _, zt, h⟩
theorem abp (h : Q (.int (i - j)) st) : Wr (opD .sub (.int i) (.int j) st) Q := ⟨_, _, Zt, h⟩
theorem Ni (g : Et i j) (h : Q (.int (i * j)) st) : Wr (opD .mul (.int i) (.int j) st) Q := ⟨_, _, Na g, h⟩
theorem abq (g : gq i) (h : Q (.int (i * j)) st) : Wr (opD .mul (.int i) (.int j) st) Q := ⟨_, _, Na (.inl g), h⟩
theorem abr (g : gq j) (h : Q (.int (i * j)) st) : Wr (opD .mul (.int i) (.int j) st) Q := ⟨_, _, Na (.inr (.inl g)), h⟩
theorem Ro (g : fg j) (h : Q (.int (i.fdiv j)) st) : Wr (opD .fdiv (.int i) (.int j) st) Q := ⟨_, _, zu g, h⟩
theorem gg (g : j ≠ 0) (h : Q (.int (i.fmod j)) st) : Wr (opD .mod (.int i) (.int j) st) Q := ⟨_, _, Zu g, h⟩
theorem abt (g : Hz i j) (h : Q (.int (i ^ j.toNat)) st) : Wr (opD .pow (.int i) (.int j) st) Q := ⟨_, _, Zv g, h⟩
theorem Bl (hn : st[n]? = some (.lst xs)) (hm : st[m]? = some (.lst ys)) (g : xs.length + ys.length ≤ sizeLine) (h : Q (.loc st.length) (st ++ [.lst (xs ++ ys)])) : Wr (opD .add (.loc n) (.loc m) st) Q := ⟨_, _, Zw hn hm g, h⟩
theorem abu (g : a.length + b.length ≤ sizeLine) (h : Q (.str (a ++ b)) st) : Wr (opD .add (.str a) (.str b) st) Q := ⟨_, _, by simp only [opD]; rw [if_pos g], h⟩
theorem Gg (h : Q (.bl (decide (i = j))) st) : Wr (cmD .eq (.int i) (.int j) st) Q := ⟨_, _, zx, h⟩
theorem Rp (h : Q (.bl (!decide (i = j))) st) : Wr (cmD .ne (.int i) (.int j) st) Q := ⟨_, _, Rg, h⟩
theorem abv (h : Q (.bl (decide (i < j))) st) : Wr (cmD .lt (.int i) (.int j) st) Q := ⟨_, _, Zx, h⟩
theorem abw (h : Q (.bl (decide (i ≤ j))) st) : Wr (cmD .le (.int i) (.int j) st) Q := ⟨_, _, zy, h⟩
theorem abx (h : Q (.bl (decide (j < i))) st) : Wr (cmD .gt (.int i) (.int j) st) Q := ⟨_, _, Zy, h⟩
theorem aby (h : Q (.bl (decide (j ≤ i))) st) : Wr (cmD .ge (.int i) (.int j) st) Q := ⟨_, _, zz, h⟩
theorem abz (h : Q (.bl (decide (d = .non))) st) : Wr (cmD .isN d .non st) Q := ⟨_, _, by simp only [cmD], h⟩
theorem aca (h : Q (.bl (!decide (d = .non))) st) : Wr (cmD .notN d .non st) Q := ⟨_, _, by simp only [cmD], h⟩
theorem rq (ha : okN 40 a = true) (hb : okN 40 b = true) (h : Q (.bl (!decide (a = b))) st) : Wr (cmD .ne a b st) Q := ⟨_, _, by simp only [cmD, eqV, gf ha (Nat.le_refl _), gf hb (Nat.le_refl _), Rh ha hb], h⟩
theorem acb (h1 : af st n = some xs) (ha : okN 40 a = true) (hx : xs.all (okN 40) = true) (h : Q (.bl (decide (a ∈ xs))) st) : Wr (cmD .inL a (.loc n) st) Q := ⟨_, _, aal h1 ha hx, h⟩
theorem acd (ha : okN 40 a = true) (hx : xs.all (okN 40) = true) (h : Q (.bl (decide (a ∈ xs))) st) : Wr (cmD .inL a (.tup xs) st) Q := ⟨_, _, aaj ha hx, h⟩
theorem Dw (e : L2.atI xs i = some d) (h : Q d st) : Wr (ixD (.tup xs) (.int i) st) Q := ⟨_, _, aac e, h⟩
theorem ar (g : af st n = some xs) (e : L2.atI xs i = some d) (h : Q d st) : Wr (ixD (.loc n) (.int i) st) Q := ⟨_, _, aae g e, h⟩
theorem ace (h : Q (.int xs.length) st) : Wr (btD .lenB [.tup xs] st) Q := ⟨_, _, aaa, h⟩
theorem Jz (g : af st n = some xs) (h : Q (.int xs.length) st) : Wr (btD .lenB [.loc n] st) Q := ⟨_, _, aab g, h⟩
theorem acf (g : z.length ≤ sizeLine) (h : Q (.int z.length) st) : Wr (btD .lenB [.str z] st) Q := ⟨_, _, by simp only [btD]; rw [if_pos g], h⟩
theorem acg (h : Q (.int (if b then 1 else 0)) st) : Wr (btD .intB [.bl b] st) Q := ⟨_, _, Zz, h⟩
theorem Rq (g : Cn st d = some xs) (h : Q (.loc st.length) (st ++ [.lst xs])) : Wr (btD .listB [d] st) Q := ⟨_, _, by simp only [btD, g], h⟩
theorem ach (g : Cn st d = some xs) (h : Q (.tup xs) st) : Wr (btD .tupleB [d] st) Q := ⟨_, _, by simp only [btD, g], h⟩
theorem aci (h : Q (.int (if j < i then j else i)) st) : Wr (btD .minB [.int i, .int j] st) Q := ⟨_, _, by simp only [btD], h⟩
theorem acj (h : Q (.int (if j > i then j else i)) st) : Wr (btD .maxB [.int i, .int j] st) Q := ⟨_, _, by simp only [btD], h⟩
theorem ka (g : af st n = some xs) (e : Dg xs = some bs) (h : Q (.bl (bs.all id)) st) : Wr (btD .allB [.loc n] st) Q := ⟨_, _, by simp only [btD, g, Option.bind_some, e], h⟩
theorem ack (g : st[n]? = some (.lst xs)) (hl : xs.length < sizeLine) (h : Q .non (st.set n (.lst (xs ++ [d])))) : Wr (mtD .append (.loc n) [d] st) Q := ⟨_, _, by simp only [mtD, g]; rw [if_pos hl], h⟩
theorem acm (g : st[n]? = some (.dct kvs)) (g2 : st[m]? = some (.dct more)) (hl : n ≠ m ∧ kvs.length + more.length ≤ sizeLine) (h : Q .non (st.set n (.dct (cu kvs more)))) : Wr (mtD .upd (.loc n) [.loc m] st) Q := ⟨_, _, by simp only [mtD, Az, g, g2]; rw [if_pos hl], h⟩
theorem ip {k : Nat} {ds : List D} {lo hi : Option Int} (e : jn k ds = some (lo, hi)) (g : af st n = some xs) (h : Q (.loc st.length) (st ++ [.lst (cutD xs lo hi)])) : Wr (slD k (.loc n) ds st) Q := ⟨_, _, by simp only [slD, e, g], h⟩
theorem acn {k : Nat} {ds : List D} {lo hi : Option Int} (e : jn k ds = some (lo, hi)) (h : Q (.tup (cutD xs lo hi)) st) : Wr (slD k (.tup xs) ds st) Q := ⟨_, _, by simp only [slD, e], h⟩
theorem aco {m : Mt} (g : st[n]? = some (.lst xs)) (hm : rdy m st (.loc n) = ia st (.loc n) := by rfl) : rdy m st (.loc n) = true := by rw [hm]; simp only [ia, g]
theorem acp (g : st[n]? = some (.dct kvs)) : rdy .upd st (.loc n) = true := by simp only [rdy, Az, g, Option.isSome_some]
theorem nj (g : af st n = some xs) : Bn st (.loc n) = some (.b "list") := by
 unfold af at g
 simp only [Bn]
 cases z : st[n]? with
 | none => rw [z] at g; cases g
 | some c => rw [z] at g; cases c <;> first | rfl | cases g
end
theorem Ao (g : a ++ m = b) : Fr a b := by rw [← g]; exact .app _
theorem at_of {a b : Sto} {c : Cell} (g : a ++ [c] = b) : b[a.length]? = some c := by rw [← g]; exact gg0.trans rfl
end DD
namespace My
open PySem PySem.Spec L2 DD
open PyProof.Rows hiding St
noncomputable def top (i : Nat) : Stmt := PySem.Challenge.pw_partproof_k03_names_refused.main.body.getD i (.Pass ⟨0, 0, 0, 0⟩)
noncomputable def acq : Stmt → List Stmt
 | .ClassDef _ _ _ b _ _ _ _ _ _ _ => b
 | _ => []
noncomputable def Ka (i j : Nat) : Stmt := (acq (top i)).getD j (.Pass ⟨0, 0, 0, 0⟩)
abbrev Lv (s : Stmt) (x : String) : Prop := (ae s).names.lookup (Str.ofString x) = some NameKind.local
theorem Kb {P : Program} {w : World} {X : Cx} : Passes (CXd P w) X (fun _ _ _ => False) := fun _ _ _ _ _ _ _ ⟨_, _, _, _, _, _, _, h⟩ => h.elim
abbrev Eb : Stmt := top 11
abbrev Ec : Stmt := top 18
abbrev Ed : Stmt := top 19
abbrev Ee : Stmt := top 20
abbrev Ef : Stmt := top 21
abbrev eg : Stmt := top 22
abbrev Eg : Stmt := top 23
abbrev da : Stmt := top 24
abbrev eh : Stmt := top 25
abbrev Eh : Stmt := top 26
abbrev Ei : Stmt := top 27
abbrev ej : Stmt := top 28
abbrev cq : Stmt := Ka 29 0
abbrev Dx : Stmt := top 31
abbrev cb : Stmt := top 32
abbrev Dj : Stmt := top 33
abbrev dk : Stmt := top 34
abbrev Dp : Stmt := top 35
abbrev dc : Stmt := top 36
abbrev Dk : Stmt := top 37
abbrev Cv : Stmt := top 38
abbrev Dc : Stmt := top 39
abbrev Bu : Stmt := top 40
abbrev Cf : Stmt := top 41
noncomputable def acr : Ss := (.cons (.whileS (.cst (.bl true)) (.cons .pass .nil)) .nil)
noncomputable def kc : Ss := (.cons (.ret (.andE (.isi (.var 0) (.b "int")) (.notE (.isi (.var 0) (.b "bool"))))) .nil)
noncomputable def ke : Ss := (.cons (.ifS (.orE (.notE (.isi (.var 0) (.b "str"))) (.notE (.chn .le .le (.cst (.int 1)) (.bt .lenB (.cons (.var 0) .nil)) (.cst (.int 8))))) (.cons (.ret (.cst (.bl false))) .nil) .nil) (.cons (.ret (.bt .allB (.cons (.comp 3 true 1 [0] [] (.var 0) .nil (.cm .inL (.var 0) (.cst (.str (Str.ofString "abcdefghijklmnopqrstuvwxyz"))))) .nil))) .nil))
noncomputable def Ke : Ss := (.cons (.ret (.andE (.isi (.var 0) (.b "tuple")) (.andE (.cm .eq (.bt .lenB (.cons (.var 0) .nil)) (.cst (.int 3))) (.call 2 (.cons (.ix (.var 0) (.cst (.int 0))) .nil) [])))) .nil)
noncomputable def kf : Ss := (.cons (.ret (.andE (.isi (.var 0) (.b "str")) (.cm .inL (.var 0) (.tupE (.cons (.cst (.str (Str.ofString "num"))) (.cons (.cst (.str (Str.ofString "thing"))) .nil)))))) .nil)
noncomputable def kg : Ss := (.cons (.ret (.andE (.isi (.var 0) (.b "list")) (.bt .allB (.cons (.comp 0 true 1 [0] [] (.var 0) .nil (.call 2 (.cons (.var 0) .nil) [])) .nil)))) .nil)
noncomputable def Kg : Ss := (.cons (.ifS (.orE (.notE (.call 3 (.cons (.var 0) .nil) [])) (.orE (.notE (.call 1 (.cons (.ix (.var 0) (.cst (.int 1))) .nil) [])) (.notE (.call 1 (.cons (.ix (.var 0) (.cst (.int 2))) .nil) [])))) (.cons (.ret (.cst (.bl false))) .nil) .nil) (.cons (.ret (.chn .le .le (.ix (.var 0) (.cst (.int 1))) (.ix (.var 0) (.cst (.int 2))) (.op .add (.ix (.var 0) (.cst (.int 1))) (.cst (.int 60))))) .nil))
noncomputable def kh : Ss := (.cons (.ifS (.orE (.notE (.call 3 (.cons (.var 0) .nil) [])) (.orE (.notE (.isi (.ix (.var 0) (.cst (.int 1))) (.b "tuple"))) (.notE (.call 4 (.cons (.ix (.var 0) (.cst (.int 2))) .nil) [])))) (.cons (.ret (.cst (.bl false))) .nil) .nil) (.cons (.ret (.andE (.chn .le .le (.cst (.int 1)) (.bt .lenB (.cons (.ix (.var 0) (.cst (.int 1))) .nil)) (.cst (.int 3))) (.bt .allB (.cons (.comp 1 true 1 [0] [] (.ix (.var 0) (.cst (.int 1))) .nil (.call 4 (.cons (.var 0) .nil) [])) .nil)))) .nil))
noncomputable def ki : Ss := (.cons (.ifS (.orE (.notE (.isi (.var 0) (.b "list"))) (.notE (.bt .allB (.cons (.comp 0 true 1 [0] [] (.var 0) .nil (.call 6 (.cons (.var 0) .nil) [])) .nil)))) (.cons (.raiseS 1) .nil) .nil) (.cons (.set 1 (.cst (.int 1))) (.cons (.forS [2, 3, 4] false false (.var 0) (.cons (.aug 1 .mul (.op .add (.op .sub (.var 4) (.var 3)) (.cst (.int 1)))) .nil)) (.cons (.ifS (.cm .gt (.var 1) (.cst (.int 3600))) (.cons (.raiseS 1) .nil) .nil) .nil))))
noncomputable def Ki : Ss := (.cons (.ifS (.orE (.notE (.isi (.var 0) (.b "list"))) (.notE (.bt .allB (.cons (.comp 0 true 1 [0] [] (.var 0) .nil (.call 7 (.cons (.var 0) .nil) [])) .nil)))) (.cons (.raiseS 1) .nil) .nil) .nil)
noncomputable def kj : Ss := (.cons (.ifS (.notE (.call 5 (.cons (.var 0) .nil) [])) (.cons (.raiseS 1) .nil) .nil) .nil)
noncomputable def Ip : Ss := (.cons (.ret (.comp 0 true 1 [0] [] (.var 0) .nil (.ix (.var 0) (.cst (.int 0))))) .nil)
noncomputable def Gx : Ss := (.cons (.ifS (.cm .ne (.bt .lenSetB (.cons (.var 0) .nil)) (.bt .lenB (.cons (.var 0) .nil))) (.cons (.raiseS 1) .nil) .nil) .nil)
noncomputable def gy : Ss := (.cons (.forS [6] true true (.tupE (.cons (.var 1) (.cons (.var 3) (.cons (.var 5) .nil)))) (.cons (.ex (.call 10 (.cons (.var 6) .nil) [])) .nil)) (.cons (.ex (.call 8 (.cons (.var 2) .nil) [])) (.cons (.ex (.call 9 (.cons (.var 4) .nil) [])) (.cons (.ex (.call 12 (.cons (.op .add (.op .add (.op .add (.op .add (.var 1) (.call 11 (.cons (.var 2) .nil) [])) (.var 3)) (.call 11 (.cons (.var 4) .nil) [])) (.var 5)) .nil) [])) (.cons (.setf 8 (.var 0) (Str.ofString "numbers") (.bt .listB (.cons (.var 1) .nil))) (.cons (.setf 8 (.var 0) (Str.ofString "wholes") (.bt .listB (.cons (.var 2) .nil))) (.cons (.setf 8 (.var 0) (Str.ofString "things") (.bt .listB (.cons (.var 3) .nil))) (.cons (.setf 8 (.var 0) (Str.ofString "functions") (.bt .listB (.cons (.var 4) .nil))) (.cons (.setf 8 (.var 0) (Str.ofString "arrays") (.bt .listB (.cons (.var 5) .nil))) (.cons (.setf 8 (.var 0) (Str.ofString "limits") (.dcomp 0 false 3 [0, 1, 2] [] (.var 2) .nil (.var 0) (.tupE (.cons (.var 1) (.cons (.var 2) .nil))))) (.cons (.setf 8 (.var 0) (Str.ofString "deeds") (.dcomp 0 false 3 [0, 1, 2] [] (.var 4) .nil (.var 0) (.tupE (.cons (.var 1) (.cons (.var 2) .nil))))) (.cons (.setf 8 (.var 0) (Str.ofString "unknowns") (.dcomp 0 true 1 [0] [] (.op .add (.var 1) (.call 11 (.cons (.var 2) .nil) [])) .nil (.var 0) (.cst (.str (Str.ofString "num"))))) (.cons (.ex (.mt .upd (.fld 8 (.var 0) (Str.ofString "unknowns")) (.cons (.dcomp 0 true 1 [0] [] (.var 3) .nil (.var 0) (.cst (.str (Str.ofString "thing")))) .nil))) (.cons (.ex (.mt .upd (.fld 8 (.var 0) (Str.ofString "unknowns")) (.cons (.dcomp 0 true 1 [0] [] (.var 5) .nil (.var 0) (.cst (.str (Str.ofString "array")))) .nil))) .nil))))))))))))))
noncomputable def acs : Ss := (.cons (.ex (.call 0 (.cons (.cst (.int 0)) .nil) [])) .nil)
noncomputable def acu : Ss := (.cons (.ex (.call 0 (.cons (.cst (.int 1)) .nil) [])) .nil)
noncomputable def acv : Ss := (.cons (.ex (.call 0 (.cons (.cst (.int 2)) .nil) [])) .nil)
noncomputable def acw : Ss := (.cons (.ex (.call 0 (.cons (.cst (.int 3)) .nil) [])) .nil)
noncomputable def acx : Ss := (.cons (.ex (.call 0 (.cons (.cst (.int 4)) .nil) [])) .nil)
noncomputable def acy : Ss := (.cons (.ret (.ifE (.isi (.var 1) (.b "str")) (.mt .get (.fld 8 (.var 0) (Str.ofString "unknowns")) (.cons (.var 1) .nil)) (.cst .non))) .nil)
noncomputable def acz : Ss := (.cons (.ex (.call 0 (.cons (.cst (.int 5)) .nil) [])) .nil)
noncomputable def ada : Ss := (.cons (.ret (.ifE (.isi (.var 1) (.b "str")) (.mt .get (.fld 8 (.var 0) (Str.ofString "deeds")) (.cons (.var 1) .nil)) (.cst .non))) .nil)
noncomputable def Kj : Ss := (.cons (.ifS (.cm .lt (.var 1) (.bt .lenB (.cons (.var 0) .nil))) (.cons (.ret (.ix (.var 0) (.var 1))) .nil) .nil) (.cons (.ret (.cst (.int 0))) .nil))
noncomputable def Kk : Ss := (.cons (.set 2 (.cst (.str (Str.ofString "abcdefghijklmnopqrstuvwxyz")))) (.cons (.set 3 (.op .add (.cst (.int 1)) (.op .mod (.var 0) (.cst (.int 8))))) (.cons (.set 4 (.op .mod (.op .mod (.op .fdiv (.var 0) (.cst (.int 8))) (.cst (.int 840))) (.var 3))) (.cons (.set 5 (.lstE .nil)) (.cons (.forR [6] (.cons (.var 1) .nil) (.cons (.set 7 (.cst (.str (Str.ofString "")))) (.cons (.forR [8] (.cons (.var 3) .nil) (.cons (.set 9 (.op .add (.op .add (.op .fdiv (.var 0) (.cst (.int 6720))) (.op .mul (.var 8) (.op .add (.cst (.int 1)) (.op .mod (.var 0) (.cst (.int 25)))))) (.op .mul (.var 6) (.bt .intB (.cons (.cm .eq (.var 8) (.var 4)) .nil))))) (.cons (.set 7 (.op .add (.var 7) (.ix (.var 2) (.op .mod (.var 9) (.cst (.int 26)))))) .nil))) (.cons (.ex (.mt .append (.var 5) (.cons (.var 7) .nil))) .nil)))) (.cons (.ret (.var 5)) .nil))))))
noncomputable def Kl : Ss := (.cons (.set 1 (.cst (.str (Str.ofString "made")))) (.cons (.tryS (.cons (.ex (.mk 8 13 (.cons (.ix (.var 0) (.cst (.int 0))) (.cons (.ix (.var 0) (.cst (.int 1))) (.cons (.ix (.var 0) (.cst (.int 2))) (.cons (.ix (.var 0) (.cst (.int 3))) (.cons (.ix (.var 0) (.cst (.int 4))) .nil))))))) .nil) 0 2 (.cons (.set 3 (.lstE (.cons (.isi (.var 2) (.o 7)) (.cons (.isi (.var 2) (.o 2)) .nil)))) (.cons (.set 3 (.op .add (.var 3) (.lstE (.cons (.isi (.var 2) (.o 3)) (.cons (.isi (.var 2) (.o 4)) .nil))))) (.cons (.set 3 (.op .add (.var 3) (.lstE (.cons (.isi (.var 2) (.o 5)) (.cons (.isi (.var 2) (.o 6)) .nil))))) (.cons (.set 1 (.cst (.str (Str.ofString "other")))) (.cons (.ifS (.andE (.isi (.var 2) (.o 1)) (.andE (.isi (.var 2) (.b "ValueError")) (.cm .notIn (.cst (.bl true)) (.var 3)))) (.cons (.set 1 (.cst (.str (Str.ofString "bad")))) .nil) .nil) .nil)))))) (.cons (.ret (.var 1)) .nil)))
noncomputable def km : Ss := (.cons (.set 2 (.comp 2 true 1 [0] [1, 0] (.tupE (.cons (.op .mod (.op .fdiv (.var 0) (.cst (.int 5))) (.cst (.int 4))) .nil)) .nil (.tupE (.cons (.ix (.var 1) (.op .add (.cst (.int 5)) (.var 0))) (.cons (.op .sub (.cst (.int 0)) (.op .mod (.op .fdiv (.var 2) (.cst (.int 7))) (.cst (.int 2)))) (.cons (.op .mod (.op .fdiv (.var 2) (.cst (.int 63))) (.cst (.int 2))) .nil)))))) (.cons (.set 3 (.comp 2 true 1 [0] [1, 0] (.tupE (.cons (.op .mod (.op .fdiv (.var 0) (.cst (.int 80))) (.cst (.int 4))) .nil)) .nil (.tupE (.cons (.ix (.var 1) (.op .add (.cst (.int 14)) (.var 0))) (.cons (.sl 2 (.tupE (.cons (.cst (.str (Str.ofString "num"))) (.cons (.cst (.str (Str.ofString "thing"))) .nil))) (.cons (.op .add (.cst (.int 1)) (.op .mod (.var 2) (.cst (.int 2)))) .nil)) (.cons (.cst (.str (Str.ofString "num"))) .nil)))))) (.cons (.ret (.lstE (.cons (.sl 2 (.var 1) (.cons (.op .mod (.var 0) (.cst (.int 5))) .nil)) (.cons (.var 2) (.cons (.sl 3 (.var 1) (.cons (.cst (.int 9)) (.cons (.op .add (.cst (.int 9)) (.op .mod (.op .fdiv (.var 0) (.cst (.int 20))) (.cst (.int 4)))) .nil))) (.cons (.var 3) (.cons (.sl 3 (.var 1) (.cons (.cst (.int 18)) (.cons (.op .add (.cst (.int 18)) (.op .mod (.op .fdiv (.var 0) (.cst (.int 320))) (.cst (.int 4)))) .nil))) .nil))))))) .nil)))
noncomputable def Km : Ss := (.cons (.set 2 (.lstE (.cons (.cst (.str (Str.ofString ""))) (.cons (.op .mul (.cst (.str (Str.ofString "a"))) (.cst (.int 9))) (.cons (.cst (.str (Str.ofString "A"))) (.cons (.cst (.str (Str.ofString "a b"))) (.cons (.cst (.str (Str.ofString "a1"))) (.cons (.cst (.str (Str.ofString "a_"))) (.cons (.cst .non) (.cons (.cst (.int 5)) (.cons (.tupE (.cons (.cst (.str (Str.ofString "a"))) .nil)) (.cons (.lstE (.cons (.cst (.str (Str.ofString "a"))) .nil)) (.cons (.cst (.bl true)) (.cons (.cst (.str (Str.ofString "a-"))) (.cons (.cst (.str (Str.ofString " a"))) (.cons (.cst (.str (Str.ofString "a\n"))) .nil)))))))))))))))) (.cons (.ret (.ix (.op .add (.var 2) (.lstE (.cons (.mt .upper (.ix (.var 1) (.cst (.int 0))) .nil) (.cons (.cst (.str (Str.ofString "abcdefghi"))) .nil)))) (.op .mod (.var 0) (.cst (.int 16))))) .nil))
noncomputable def Kn : Ss := (.cons (.set 3 (.op .mod (.op .fdiv (.var 0) (.cst (.int 30))) (.op .pow (.cst (.int 10)) (.cst (.int 20))))) (.cons (.set 4 (.lstE (.cons (.tupE (.cons (.var 1) (.cons (.var 3) (.cons (.op .sub (.var 3) (.cst (.int 1))) .nil)))) (.cons (.tupE (.cons (.var 1) (.cons (.var 3) (.cons (.op .add (.var 3) (.cst (.int 61))) .nil)))) (.cons (.tupE (.cons (.var 1) (.cons (.var 3) .nil))) .nil))))) (.cons (.set 4 (.op .add (.var 4) (.lstE (.cons (.tupE (.cons (.var 1) (.cons (.var 3) (.cons (.var 3) (.cons (.var 3) .nil))))) (.cons (.lstE (.cons (.var 1) (.cons (.cst (.int 0)) (.cons (.cst (.int 1)) .nil)))) (.cons (.var 1) (.cons (.cst .non) .nil))))))) (.cons (.set 4 (.op .add (.var 4) (.lstE (.cons (.tupE (.cons (.var 1) (.cons (.cst (.bl true)) (.cons (.cst (.int 1)) .nil)))) (.cons (.tupE (.cons (.var 1) (.cons (.cst (.int 0)) (.cons (.cst .non) .nil)))) (.cons (.tupE (.cons (.var 1) (.cons (.cst (.str (Str.ofString "0"))) (.cons (.cst (.int 1)) .nil)))) (.cons (.tupE (.cons (.var 1) (.cons (.tupE (.cons (.cst (.int 0)) (.cons (.cst (.int 1)) .nil))) (.cons (.tupE (.cons (.cst (.int 1)) (.cons (.cst (.int 1)) .nil))) .nil)))) (.cons (.tupE (.cons (.var 1) (.cons (.cst (.int 0)) (.cons (.cst (.bl false)) .nil)))) .nil)))))))) (.cons (.ret (.ix (.op .add (.var 4) (.lstE (.cons (.tupE (.cons (.call 26 (.cons (.op .fdiv (.var 0) (.cst (.int 15))) (.cons (.var 2) .nil)) []) (.cons (.cst (.int 0)) (.cons (.cst (.int 1)) .nil)))) .nil))) (.op .mod (.var 0) (.cst (.int 13))))) .nil)))))
noncomputable def ko : Ss := (.cons (.set 3 (.lstE (.cons (.tupE (.cons (.var 1) (.cons (.tupE .nil) (.cons (.cst (.str (Str.ofString "num"))) .nil)))) (.cons (.tupE (.cons (.var 1) (.cons (.op .mul (.tupE (.cons (.cst (.str (Str.ofString "num"))) .nil)) (.cst (.int 4))) (.cons (.cst (.str (Str.ofString "num"))) .nil)))) (.cons (.tupE (.cons (.var 1) (.cons (.lstE (.cons (.cst (.str (Str.ofString "num"))) .nil)) (.cons (.cst (.str (Str.ofString "num"))) .nil)))) .nil))))) (.cons (.set 3 (.op .add (.var 3) (.lstE (.cons (.tupE (.cons (.var 1) (.cons (.tupE (.cons (.cst (.str (Str.ofString "num"))) .nil)) (.cons (.cst (.str (Str.ofString "array"))) .nil)))) (.cons (.tupE (.cons (.var 1) (.cons (.cst (.str (Str.ofString "num"))) (.cons (.cst (.str (Str.ofString "num"))) .nil)))) .nil))))) (.cons (.set 3 (.op .add (.var 3) (.lstE (.cons (.tupE (.cons (.var 1) (.cons (.tupE (.cons (.cst (.str (Str.ofString "num"))) (.cons (.cst (.str (Str.ofString "array"))) .nil))) (.cons (.cst (.str (Str.ofString "num"))) .nil)))) (.cons (.tupE (.cons (.var 1) (.cons (.tupE (.cons (.cst (.str (Str.ofString "num"))) .nil)) .nil))) .nil))))) (.cons (.set 3 (.op .add (.var 3) (.lstE (.cons (.lstE (.cons (.var 1) (.cons (.tupE (.cons (.cst (.str (Str.ofString "num"))) .nil)) (.cons (.cst (.str (Str.ofString "num"))) .nil)))) (.cons (.var 1) (.cons (.tupE (.cons (.var 1) (.cons (.tupE (.cons (.cst .non) .nil)) (.cons (.cst (.str (Str.ofString "num"))) .nil)))) .nil)))))) (.cons (.set 3 (.op .add (.var 3) (.lstE (.cons (.tupE (.cons (.var 1) (.cons (.tupE (.cons (.cst (.str (Str.ofString "num"))) .nil)) (.cons (.cst .non) .nil)))) (.cons (.tupE (.cons (.var 1) (.cons (.tupE (.cons (.cst (.str (Str.ofString "number"))) .nil)) (.cons (.cst (.str (Str.ofString "num"))) .nil)))) .nil))))) (.cons (.set 3 (.op .add (.var 3) (.lstE (.cons (.tupE (.cons (.var 1) (.cons (.tupE (.cons (.cst (.str (Str.ofString "num"))) .nil)) (.cons (.cst (.str (Str.ofString "Num"))) .nil)))) (.cons (.tupE (.cons (.var 1) (.cons (.cst .non) (.cons (.cst (.str (Str.ofString "thing"))) .nil)))) .nil))))) (.cons (.ret (.ix (.op .add (.var 3) (.lstE (.cons (.tupE (.cons (.call 26 (.cons (.op .fdiv (.var 0) (.cst (.int 15))) (.cons (.var 2) .nil)) []) (.cons (.tupE (.cons (.cst (.str (Str.ofString "num"))) .nil)) (.cons (.cst (.str (Str.ofString "num"))) .nil)))) .nil))) (.op .mod (.var 0) (.cst (.int 15))))) .nil)))))))
noncomputable def Ko : Ss := (.cons (.set 4 (.op .mod (.var 3) (.op .add (.bt .lenB (.cons (.ix (.var 0) (.var 1)) .nil)) (.cst (.int 1))))) (.cons (.set 5 (.comp 0 true 1 [0] [] (.var 0) .nil (.bt .listB (.cons (.var 0) .nil)))) (.cons (.dput (.var 5) (.var 1) (.op .add (.op .add (.sl 2 (.ix (.var 5) (.var 1)) (.cons (.var 4) .nil)) (.lstE (.cons (.var 2) .nil))) (.sl 1 (.ix (.var 5) (.var 1)) (.cons (.var 4) .nil)))) (.cons (.ret (.var 5)) .nil))))
noncomputable def Kp : Ss := (.cons (.set 3 (.comp 0 true 1 [0] [] (.var 0) .nil (.bt .listB (.cons (.var 0) .nil)))) (.cons (.set 4 (.op .sub (.cst (.int 0)) (.op .mod (.op .fdiv (.var 2) (.cst (.int 4))) (.op .pow (.cst (.int 10)) (.cst (.int 20)))))) (.cons (.dput (.var 3) (.cst (.int 1)) (.lstE (.cons (.tupE (.cons (.ix (.var 1) (.cst (.int 22))) (.cons (.var 4) (.cons (.op .add (.var 4) (.cst (.int 59))) .nil)))) (.cons (.tupE (.cons (.ix (.var 1) (.cst (.int 23))) (.cons (.cst (.int 5)) (.cons (.ix (.lstE (.cons (.cst (.int 64)) (.cons (.cst (.int 65)) .nil))) (.op .mod (.var 2) (.cst (.int 2)))) .nil)))) .nil)))) (.cons (.ifS (.cm .eq (.op .mod (.op .fdiv (.var 2) (.cst (.int 2))) (.cst (.int 2))) (.cst (.int 1))) (.cons (.dput (.var 3) (.cst (.int 1)) (.lstE (.cons (.tupE (.cons (.ix (.var 1) (.cst (.int 22))) (.cons (.var 4) (.cons (.op .add (.var 4) (.cst (.int 15))) .nil)))) (.cons (.tupE (.cons (.ix (.var 1) (.cst (.int 23))) (.cons (.cst (.int 3)) (.cons (.cst (.int 17)) .nil)))) (.cons (.tupE (.cons (.ix (.var 1) (.cst (.int 24))) (.cons (.cst (.int 1)) (.cons (.ix (.lstE (.cons (.cst (.int 15)) (.cons (.cst (.int 16)) .nil))) (.op .mod (.var 2) (.cst (.int 2)))) .nil)))) .nil))))) .nil) .nil) (.cons (.ret (.tupE (.cons (.var 3) (.cons (.ix (.lstE (.cons (.cst (.str (Str.ofString "made"))) (.cons (.cst (.str (Str.ofString "bad"))) .nil))) (.op .mod (.var 2) (.cst (.int 2)))) .nil)))) .nil)))))
noncomputable def Bm : Ss := (.cons (.set 3 (.op .mod (.var 2) (.cst (.int 6)))) (.cons (.set 4 (.op .fdiv (.var 2) (.cst (.int 6)))) (.cons (.set 5 (.op .mod (.var 4) (.cst (.int 5)))) (.cons (.ifS (.cm .eq (.var 3) (.cst (.int 0))) (.cons (.set 6 (.comp 0 true 1 [0] [] (.var 0) .nil (.bt .listB (.cons (.var 0) .nil)))) (.cons (.dput (.var 6) (.var 5) (.ix (.lstE (.cons (.bt .tupleB (.cons (.ix (.var 0) (.var 5)) .nil)) (.cons (.cst .non) (.cons .dnew (.cons (.cst (.str (Str.ofString "a"))) (.cons (.cst (.int 0)) .nil)))))) (.op .mod (.op .fdiv (.var 4) (.cst (.int 5))) (.cst (.int 5))))) (.cons (.ret (.tupE (.cons (.var 6) (.cons (.cst (.str (Str.ofString "bad"))) .nil)))) .nil))) .nil) (.cons (.ifS (.cm .eq (.var 3) (.cst (.int 1))) (.cons (.ret (.tupE (.cons (.call 29 (.cons (.var 0) (.cons (.ix (.lstE (.cons (.cst (.int 0)) (.cons (.cst (.int 2)) (.cons (.cst (.int 4)) .nil)))) (.op .mod (.var 4) (.cst (.int 3)))) (.cons (.call 26 (.cons (.op .fdiv (.var 4) (.cst (.int 3))) (.cons (.var 1) .nil)) []) (.cons (.op .fdiv (.var 4) (.cst (.int 48))) .nil)))) []) (.cons (.cst (.str (Str.ofString "bad"))) .nil)))) .nil) .nil) (.cons (.ifS (.cm .eq (.var 3) (.cst (.int 2))) (.cons (.ret (.tupE (.cons (.call 29 (.cons (.var 0) (.cons (.cst (.int 1)) (.cons (.call 27 (.cons (.var 4) (.cons (.ix (.var 1) (.cst (.int 8))) (.cons (.var 1) .nil))) []) (.cons (.op .fdiv (.var 4) (.cst (.int 13))) .nil)))) []) (.cons (.cst (.str (Str.ofString "bad"))) .nil)))) .nil) .nil) (.cons (.ifS (.cm .eq (.var 3) (.cst (.int 3))) (.cons (.ret (.tupE (.cons (.call 29 (.cons (.var 0) (.cons (.cst (.int 3)) (.cons (.call 28 (.cons (.var 4) (.cons (.ix (.var 1) (.cst (.int 17))) (.cons (.var 1) .nil))) []) (.cons (.op .fdiv (.var 4) (.cst (.int 240))) .nil)))) []) (.cons (.cst (.str (Str.ofString "bad"))) .nil)))) .nil) .nil) (.cons (.ifS (.cm .eq (.var 3) (.cst (.int 4))) (.cons (.set 7 (.op .add (.op .add (.op .add (.op .add (.ix (.var 0) (.cst (.int 0))) (.ix (.var 0) (.cst (.int 2)))) (.ix (.var 0) (.cst (.int 4)))) (.comp 0 true 1 [0] [] (.op .add (.ix (.var 0) (.cst (.int 1))) (.ix (.var 0) (.cst (.int 3)))) .nil (.ix (.var 0) (.cst (.int 0))))) (.lstE (.cons (.ix (.var 1) (.cst (.int 24))) .nil)))) (.cons (.set 8 (.ix (.var 7) (.op .mod (.op .fdiv (.var 4) (.cst (.int 5))) (.bt .lenB (.cons (.var 7) .nil))))) (.cons (.set 9 (.call 29 (.cons (.var 0) (.cons (.var 5) (.cons (.ix (.lstE (.cons (.var 8) (.cons (.tupE (.cons (.var 8) (.cons (.cst (.int 0)) (.cons (.cst (.int 1)) .nil)))) (.cons (.var 8) (.cons (.tupE (.cons (.var 8) (.cons (.tupE (.cons (.cst (.str (Str.ofString "num"))) .nil)) (.cons (.cst (.str (Str.ofString "num"))) .nil)))) (.cons (.var 8) .nil)))))) (.var 5)) (.cons (.op .fdiv (.var 4) (.cst (.int 15))) .nil)))) [])) (.cons (.set 9 (.call 29 (.cons (.var 9) (.cons (.ix (.lstE (.cons (.cst (.int 0)) (.cons (.cst (.int 2)) (.cons (.cst (.int 4)) .nil)))) (.op .mod (.op .fdiv (.var 4) (.cst (.int 7))) (.cst (.int 3)))) (.cons (.var 8) (.cons (.op .fdiv (.var 4) (.cst (.int 77))) .nil)))) [])) (.cons (.ret (.tupE (.cons (.var 9) (.cons (.cst (.str (Str.ofString "bad"))) .nil)))) .nil))))) .nil) (.cons (.ifS (.cm .eq (.op .mod (.var 4) (.cst (.int 4))) (.cst (.int 3))) (.cons (.ret (.call 30 (.cons (.var 0) (.cons (.var 1) (.cons (.op .fdiv (.var 4) (.cst (.int 4))) .nil))) [])) .nil) .nil) (.cons (.set 10 (.lstE (.cons (.tupE (.cons (.op .mul (.cst (.str (Str.ofString "a"))) (.cst (.int 8))) (.cons (.cst (.int 0)) .nil))) (.cons (.tupE (.cons (.tupE (.cons (.ix (.var 1) (.cst (.int 24))) (.cons (.op .sub (.cst (.int 0)) (.op .mod (.var 4) (.op .pow (.cst (.int 10)) (.cst (.int 20))))) (.cons (.op .sub (.cst (.int 60)) (.op .mod (.var 4) (.op .pow (.cst (.int 10)) (.cst (.int 20))))) .nil)))) (.cons (.cst (.int 1)) .nil))) .nil)))) (.cons (.set 10 (.op .add (.var 10) (.lstE (.cons (.tupE (.cons (.tupE (.cons (.ix (.var 1) (.cst (.int 24))) (.cons (.op .mul (.tupE (.cons (.cst (.str (Str.ofString "num"))) .nil)) (.cst (.int 3))) (.cons (.cst (.str (Str.ofString "thing"))) .nil)))) (.cons (.cst (.int 3)) .nil))) .nil)))) (.cons (.unp [11, 12] (.ix (.var 10) (.op .mod (.var 4) (.cst (.int 3))))) (.cons (.ifS (.andE (.cm .eq (.op .mod (.var 4) (.cst (.int 3))) (.cst (.int 0))) (.cm .inL (.op .mul (.cst (.str (Str.ofString "a"))) (.cst (.int 8))) (.var 1))) (.cons (.ret (.tupE (.cons (.var 0) (.cons (.cst (.str (Str.ofString "made"))) .nil)))) .nil) .nil) (.cons (.ret (.tupE (.cons (.call 29 (.cons (.var 0) (.cons (.var 12) (.cons (.var 11) (.cons (.op .fdiv (.var 4) (.cst (.int 3))) .nil)))) []) (.cons (.cst (.str (Str.ofString "made"))) .nil)))) .nil))))))))))))))
noncomputable def kq : Ss := (.cons (.set 1 (.call 23 (.cons (.call 22 (.cons (.var 0) (.cons (.cst (.int 0)) .nil)) []) (.cons (.cst (.int 26)) .nil)) [])) (.cons (.set 2 (.call 25 (.cons (.call 22 (.cons (.var 0) (.cons (.cst (.int 1)) .nil)) []) (.cons (.var 1) .nil)) [])) (.cons (.forR [3] (.cons (.cst (.int 3)) .nil) (.cons (.unp [4, 5] (.call 31 (.cons (.var 2) (.cons (.var 1) (.cons (.call 22 (.cons (.var 0) (.cons (.op .add (.cst (.int 2)) (.var 3)) .nil)) []) .nil))) [])) (.cons (.ifS (.orE (.cm .ne (.call 24 (.cons (.var 4) .nil) []) (.var 5)) (.cm .ne (.call 24 (.cons (.var 2) .nil) []) (.cst (.str (Str.ofString "made"))))) (.cons (.ret (.cst (.bl false))) .nil) .nil) .nil))) (.cons (.ret (.cm .eq (.var 2) (.call 25 (.cons (.call 22 (.cons (.var 0) (.cons (.cst (.int 1)) .nil)) []) (.cons (.var 1) .nil)) []))) .nil))))
noncomputable def fns : List Fn := [⟨1, 1, acr⟩, ⟨1, 1, kc⟩, ⟨1, 1, ke⟩, ⟨1, 1, Ke⟩, ⟨1, 1, kf⟩, ⟨1, 1, kg⟩, ⟨1, 1, Kg⟩, ⟨1, 1, kh⟩, ⟨1, 5, ki⟩, ⟨1, 1, Ki⟩, ⟨1, 1, kj⟩, ⟨1, 1, Ip⟩, ⟨1, 1, Gx⟩, ⟨6, 7, gy⟩, ⟨1, 1, acs⟩, ⟨1, 1, acu⟩, ⟨1, 1, acv⟩, ⟨1, 1, acw⟩, ⟨1, 1, acx⟩, ⟨2, 2, acy⟩, ⟨2, 2, acz⟩, ⟨2, 2, ada⟩, ⟨2, 2, Kj⟩, ⟨2, 10, Kk⟩, ⟨1, 4, Kl⟩, ⟨2, 4, km⟩, ⟨2, 3, Km⟩, ⟨3, 5, Kn⟩, ⟨3, 4, ko⟩, ⟨4, 6, Ko⟩, ⟨3, 5, Kp⟩, ⟨3, 13, Bm⟩, ⟨1, 6, kq⟩]
noncomputable def tab (n : Nat) (t : Ty) : Option Bool := match n with
 | 1 => (match t with | .o j => some (decide (j ∈ ([1, 0] : List Nat))) | .b x => if x = "ValueError" then some true else none)
 | _ => none
theorem fb {n : Nat} {x : String} (h : x ≠ "ValueError") : tab n (.b x) = none := by
 unfold tab
 split
 · simp [h]
 · rfl
section
variable (K : PySem.W.Frag) (mg : Str → Option Value) (ad : Nat → Addr) (fd : Nat → FuncData) (cls : CW)
structure Txt : Prop where
 f_is_whole : FunD K "is_whole" "is_whole" Eb (ad 1) (fd 1)
 m_is_whole : mg "is_whole" = some (.ref (ad 1))
 b_is_whole : Binds K (fd 1) ["thing"] []
 f_is_name : FunD K "is_name" "is_name" Ec (ad 2) (fd 2)
 m_is_name : mg "is_name" = some (.ref (ad 2))
 b_is_name : Binds K (fd 2) ["thing"] []
 f_is_row : FunD K "is_row" "is_row" Ed (ad 3) (fd 3)
 m_is_row : mg "is_row" = some (.ref (ad 3))
 b_is_row : Binds K (fd 3) ["thing"] []
 f_is_kind : FunD K "is_kind" "is_kind" Ee (ad 4) (fd 4)
 m_is_kind : mg "is_kind" = some (.ref (ad 4))
 b_is_kind : Binds K (fd 4) ["thing"] []
 f_is_list_of_names : FunD K "is_list_of_names" "is_list_of_names" Ef (ad 5) (fd 5)
 m_is_list_of_names : mg "is_list_of_names" = some (.ref (ad 5))
 b_is_list_of_names : Binds K (fd 5) ["thing"] []
 f_is_bounded : FunD K "is_bounded" "is_bounded" eg (ad 6) (fd 6)
 m_is_bounded : mg "is_bounded" = some (.ref (ad 6))
 b_is_bounded : Binds K (fd 6) ["thing"] []
 f_is_function : FunD K "is_function" "is_function" Eg (ad 7) (fd 7)
 m_is_function : mg "is_function" = some (.ref (ad 7))
 b_is_function : Binds K (fd 7) ["thing"] []
 f_check_wholes : FunD K "check_wholes" "check_wholes" da (ad 8) (fd 8)
 m_check_wholes : mg "check_wholes" = some (.ref (ad 8))
 b_check_wholes : Binds K (fd 8) ["wholes"] []
 f_check_functions : FunD K "check_functions" "check_functions" eh (ad 9) (fd 9)
 m_check_functions : mg "check_functions" = some (.ref (ad 9))
 b_check_functions : Binds K (fd 9) ["functions"] []
 f_check_names : FunD K "check_names" "check_names" Eh (ad 10) (fd 10)
 m_check_names : mg "check_names" = some (.ref (ad 10))
 b_check_names : Binds K (fd 10) ["names"] []
 f_first_parts : FunD K "first_parts" "first_parts" Ei (ad 11) (fd 11)
 m_first_parts : mg "first_parts" = some (.ref (ad 11))
 b_first_parts : Binds K (fd 11) ["rows"] []
 f_check_unlike : FunD K "check_unlike" "check_unlike" ej (ad 12) (fd 12)
 m_check_unlike : mg "check_unlike" = some (.ref (ad 12))
 b_check_unlike : Binds K (fd 12) ["names"] []
 f_Names_9__init__ : FunD K "__init__" "Names.__init__" cq (ad 13) (fd 13)
 b_Names_9__init__ : Binds K (fd 13) ["self", "numbers", "wholes", "things", "functions", "arrays"] []
 f__law_cell_at : FunD K "_law_cell_at" "_law_cell_at" Dx (ad 22) (fd 22)
 m__law_cell_at : mg "_law_cell_at" = some (.ref (ad 22))
 b__law_cell_at : Binds K (fd 22) ["_law_script", "_law_k"] []
 f__law_names : FunD K "_law_names" "_law_names" cb (ad 23) (fd 23)
 m__law_names : mg "_law_names" = some (.ref (ad 23))
 b__law_names : Binds K (fd 23) ["_law_cell", "_law_many"] []
 f__law_said : FunD K "_law_said" "_law_said" Dj (ad 24) (fd 24)
 m__law_said : mg "_law_said" = some (.ref (ad 24))
 b__law_said : Binds K (fd 24) ["_law_lists_here"] []
 f__law_lists : FunD K "_law_lists" "_law_lists" dk (ad 25) (fd 25)
 m__law_lists : mg "_law_lists" = some (.ref (ad 25))
 b__law_lists : Binds K (fd 25) ["_law_cell", "_law_names_here"] []
 f__law_no_name : FunD K "_law_no_name" "_law_no_name" Dp (ad 26) (fd 26)
 m__law_no_name : mg "_law_no_name" = some (.ref (ad 26))
 b__law_no_name : Binds K (fd 26) ["_law_cell", "_law_names_here"] []
 f__law_no_stretch : FunD K "_law_no_stretch" "_law_no_stretch" dc (ad 27) (fd 27)
 m__law_no_stretch : mg "_law_no_stretch" = some (.ref (ad 27))
 b__law_no_stretch : Binds K (fd 27) ["_law_cell", "_law_name", "_law_names_here"] []
 f__law_no_function : FunD K "_law_no_function" "_law_no_function" Dk (ad 28) (fd 28)
 m__law_no_function : mg "_law_no_function" = some (.ref (ad 28))
 b__law_no_function : Binds K (fd 28) ["_law_cell", "_law_name", "_law_names_here"] []
 f__law_put : FunD K "_law_put" "_law_put" Cv (ad 29) (fd 29)
 m__law_put : mg "_law_put" = some (.ref (ad 29))
 b__law_put : Binds K (fd 29) ["_law_lists_here", "_law_which", "_law_thing", "_law_cell"] []
 f__law_many_values : FunD K "_law_many_values" "_law_many_values" Dc (ad 30) (fd 30)
 m__law_many_values : mg "_law_many_values" = some (.ref (ad 30))
 b__law_many_values : Binds K (fd 30) ["_law_lists_here", "_law_names_here", "_law_rest"] []
 f__law_case : FunD K "_law_case" "_law_case" Bu (ad 31) (fd 31)
 m__law_case : mg "_law_case" = some (.ref (ad 31))
 b__law_case : Binds K (fd 31) ["_law_lists_here", "_law_names_here", "_law_cell"] []
 f_law : FunD K "law" "law" Cf (ad 32) (fd 32)
 m_law : mg "law" = some (.ref (ad 32))
 b_law : Binds K (fd 32) ["_law_script"] []
 gc_LETTERS : ∃ u, mg "LETTERS" = some u ∧ RelV ((.str (Str.ofString "abcdefghijklmnopqrstuvwxyz")) : L2.V) u
 gc_LONGEST_NAME : ∃ u, mg "LONGEST_NAME" = some u ∧ RelV ((.int 8) : L2.V) u
 gc_MOST_KINDS : ∃ u, mg "MOST_KINDS" = some u ∧ RelV ((.int 3) : L2.V) u
 gc_MOST_VALUES : ∃ u, mg "MOST_VALUES" = some u ∧ RelV ((.int 3600) : L2.V) u
 gc_WIDEST_BOUNDS : ∃ u, mg "WIDEST_BOUNDS" = some u ∧ RelV ((.int 60) : L2.V) u
 cl_Names : Cls K (cls 8)
 na_Names_arrays : cn K (cls 8) "arrays"
 na_Names_deeds : cn K (cls 8) "deeds"
 na_Names_functions : cn K (cls 8) "functions"
 na_Names_limits : cn K (cls 8) "limits"
 na_Names_numbers : cn K (cls 8) "numbers"
 na_Names_things : cn K (cls 8) "things"
 na_Names_unknowns : cn K (cls 8) "unknowns"
 na_Names_wholes : cn K (cls 8) "wholes"
 k_Names : Mk K (cls 8) (ad 13)
 mc_BadNames : mg "BadNames" = some (.ref (cls 1))
 mc_BadStatement : mg "BadStatement" = some (.ref (cls 3))
 mc_BadTerm : mg "BadTerm" = some (.ref (cls 2))
 mc_Names : mg "Names" = some (.ref (cls 8))
 mc_NoNumber : mg "NoNumber" = some (.ref (cls 7))
 mc_NoRow : mg "NoRow" = some (.ref (cls 6))
 mc_NoText : mg "NoText" = some (.ref (cls 5))
 mc_NotTold : mg "NotTold" = some (.ref (cls 4))
 mc_PartError : mg "PartError" = some (.ref (cls 0))
 nc_BadNames : PySem.W.nsIn K mainGlobals "BadNames" = some (some (.ref (cls 1)))
 xc_BadNames : PySem.W.excIn K (cls 1) [.type "ValueError", .type "Exception", .type "BaseException", .type "object"] "ValueError.__new__" = true
 o_BadNames : ∀ n k, tab n (.o 1) = some k → ExcC K (cls n) ∧ PySem.W.kitOne K (.ref (cls n)) (.ref (cls 1)) = some k
 o_BadStatement : ∀ n k, tab n (.o 3) = some k → ExcC K (cls n) ∧ PySem.W.kitOne K (.ref (cls n)) (.ref (cls 3)) = some k
 o_BadTerm : ∀ n k, tab n (.o 2) = some k → ExcC K (cls n) ∧ PySem.W.kitOne K (.ref (cls n)) (.ref (cls 2)) = some k
 o_NoNumber : ∀ n k, tab n (.o 7) = some k → ExcC K (cls n) ∧ PySem.W.kitOne K (.ref (cls n)) (.ref (cls 7)) = some k
 o_NoRow : ∀ n k, tab n (.o 6) = some k → ExcC K (cls n) ∧ PySem.W.kitOne K (.ref (cls n)) (.ref (cls 6)) = some k
 o_NoText : ∀ n k, tab n (.o 5) = some k → ExcC K (cls n) ∧ PySem.W.kitOne K (.ref (cls n)) (.ref (cls 5)) = some k
 o_NotTold : ∀ n k, tab n (.o 4) = some k → ExcC K (cls n) ∧ PySem.W.kitOne K (.ref (cls n)) (.ref (cls 4)) = some k
 o_ValueError : ∀ n k, tab n (.b "ValueError") = some k → ExcC K (cls n) ∧ PySem.W.kitOne K (.ref (cls n)) (.type "ValueError") = some k
 x_PartError : ∀ n, tab n (.o 0) = some true → PySem.W.exmOne K (.ref (cls n)) (.ref (cls 0)) = some true
 z_ValueError : mg "ValueError" = none
 z_all : mg "all" = none
 z_bool : mg "bool" = none
 z_int : mg "int" = none
 z_isinstance : mg "isinstance" = none
 z_len : mg "len" = none
 z_list : mg "list" = none
 z_range : mg "range" = none
 z_set : mg "set" = none
 z_str : mg "str" = none
 z_tuple : mg "tuple" = none
end
section
variable {Pr : Program} {w : World} {K : PySem.W.Frag} {mg : Str → Option Value} {base : Heap} {ad : Nat → Addr} {fd : Nat → FuncData} {cls : CW} {FF : Nat}
abbrev Fk (Pr : Program) (w : World) (K : PySem.W.Frag) (mg : Str → Option Value) (base : Heap) (ad : Nat → Addr) (fd : Nat → FuncData) (cls : CW) (FF n i : Nat) (ps : List Str) (k : Nat) : Prop := FnOk Pr w K mg base (CXd Pr w) (2 * n) (ad i) (fd i) ps (spD K cls k (Cg tab fns FF n i))
structure IH (Pr : Program) (w : World) (K : PySem.W.Frag) (mg : Str → Option Value) (base : Heap) (ad : Nat → Addr) (fd : Nat → FuncData) (cls : CW) (FF n : Nat) : Prop where
 i_is_whole : Fk Pr w K mg base ad fd cls FF n 1 ["thing"] 1
 i_is_name : Fk Pr w K mg base ad fd cls FF n 2 ["thing"] 1
 i_is_row : Fk Pr w K mg base ad fd cls FF n 3 ["thing"] 1
 i_is_kind : Fk Pr w K mg base ad fd cls FF n 4 ["thing"] 1
 i_is_list_of_names : Fk Pr w K mg base ad fd cls FF n 5 ["thing"] 1
 i_is_bounded : Fk Pr w K mg base ad fd cls FF n 6 ["thing"] 1
 i_is_function : Fk Pr w K mg base ad fd cls FF n 7 ["thing"] 1
 i_check_wholes : Fk Pr w K mg base ad fd cls FF n 8 ["wholes"] 1
 i_check_functions : Fk Pr w K mg base ad fd cls FF n 9 ["functions"] 1
 i_check_names : Fk Pr w K mg base ad fd cls FF n 10 ["names"] 1
 i_first_parts : Fk Pr w K mg base ad fd cls FF n 11 ["rows"] 1
 i_check_unlike : Fk Pr w K mg base ad fd cls FF n 12 ["names"] 1
 i_Names_9__init__ : Fk Pr w K mg base ad fd cls FF n 13 ["self", "numbers", "wholes", "things", "functions", "arrays"] 6
 i__law_cell_at : Fk Pr w K mg base ad fd cls FF n 22 ["_law_script", "_law_k"] 2
 i__law_names : Fk Pr w K mg base ad fd cls FF n 23 ["_law_cell", "_law_many"] 2
 i__law_said : Fk Pr w K mg base ad fd cls FF n 24 ["_law_lists_here"] 1
 i__law_lists : Fk Pr w K mg base ad fd cls FF n 25 ["_law_cell", "_law_names_here"] 2
 i__law_no_name : Fk Pr w K mg base ad fd cls FF n 26 ["_law_cell", "_law_names_here"] 2
 i__law_no_stretch : Fk Pr w K mg base ad fd cls FF n 27 ["_law_cell", "_law_name", "_law_names_here"] 3
 i__law_no_function : Fk Pr w K mg base ad fd cls FF n 28 ["_law_cell", "_law_name", "_law_names_here"] 3
 i__law_put : Fk Pr w K mg base ad fd cls FF n 29 ["_law_lists_here", "_law_which", "_law_thing", "_law_cell"] 4
 i__law_many_values : Fk Pr w K mg base ad fd cls FF n 30 ["_law_lists_here", "_law_names_here", "_law_rest"] 3
 i__law_case : Fk Pr w K mg base ad fd cls FF n 31 ["_law_lists_here", "_law_names_here", "_law_cell"] 3
 i_law : Fk Pr w K mg base ad fd cls FF n 32 ["_law_script"] 1
theorem adb : FnScope ["thing"] ["thing"] (ae Eb) := ⟨rfl, rfl, rfl, by decide +kernel, rfl, by decide +kernel, by decide +kernel⟩
theorem Rr : Lv Eb "thing" := by decide +kernel
theorem ade : FnScope ["thing"] ["thing"] (ae Ec) := ⟨rfl, rfl, rfl, by decide +kernel, rfl, by decide +kernel, by decide +kernel⟩
theorem Nj : Lv Ec "thing" := by decide +kernel
theorem adf : FnScope ["thing"] ["thing"] (ae Ed) := ⟨rfl, rfl, rfl, by decide +kernel, rfl, by decide +kernel, by decide +kernel⟩
theorem nk : Lv Ed "thing" := by decide +kernel
theorem adg : FnScope ["thing"] ["thing"] (ae Ee) := ⟨rfl, rfl, rfl, by decide +kernel, rfl, by decide +kernel, by decide +kernel⟩
theorem Rt : Lv Ee "thing" := by decide +kernel
theorem adh : FnScope ["thing"] ["thing"] (ae Ef) := ⟨rfl, rfl, rfl, by decide +kernel, rfl, by decide +kernel, by decide +kernel⟩
theorem Ru : Lv Ef "thing" := by decide +kernel
theorem adi : FnScope ["thing"] ["thing"] (ae eg) := ⟨rfl, rfl, rfl, by decide +kernel, rfl, by decide +kernel, by decide +kernel⟩
theorem Gy : Lv eg "thing" := by decide +kernel
theorem adj : FnScope ["thing"] ["thing"] (ae Eg) := ⟨rfl, rfl, rfl, by decide +kernel, rfl, by decide +kernel, by decide +kernel⟩
theorem iq : Lv Eg "thing" := by decide +kernel
theorem gz : FnScope ["wholes", "values", "name", "low", "high"] ["wholes"] (ae da) := ⟨rfl, rfl, rfl, by decide +kernel, rfl, by decide +kernel, by decide +kernel⟩
theorem Nk : Lv da "wholes" := by decide +kernel
theorem Nl : Lv da "values" := by decide +kernel
theorem adk : Lv da "name" := by decide +kernel
theorem Rv : Lv da "low" := by decide +kernel
theorem Rw : Lv da "high" := by decide +kernel
theorem adl : FnScope ["functions"] ["functions"] (ae eh) := ⟨rfl, rfl, rfl, by decide +kernel, rfl, by decide +kernel, by decide +kernel⟩
theorem Rx : Lv eh "functions" := by decide +kernel
theorem adm : FnScope ["names"] ["names"] (ae Eh) := ⟨rfl, rfl, rfl, by decide +kernel, rfl, by decide +kernel, by decide +kernel⟩
theorem adn : Lv Eh "names" := by decide +kernel
theorem ado : FnScope ["rows"] ["rows"] (ae Ei) := ⟨rfl, rfl, rfl, by decide +kernel, rfl, by decide +kernel, by decide +kernel⟩
theorem adp : Lv Ei "rows" := by decide +kernel
theorem adq : FnScope ["names"] ["names"] (ae ej) := ⟨rfl, rfl, rfl, by decide +kernel, rfl, by decide +kernel, by decide +kernel⟩
theorem Ry : Lv ej "names" := by decide +kernel
theorem Rz : FnScope ["self", "numbers", "wholes", "things", "functions", "arrays", "names"] ["self", "numbers", "wholes", "things", "functions", "arrays"] (ae cq) := ⟨rfl, rfl, rfl, by decide +kernel, rfl, by decide +kernel, by decide +kernel⟩
theorem Ej : Lv cq "self" := by decide +kernel
theorem Kq : Lv cq "numbers" := by decide +kernel
theorem Iq : Lv cq "wholes" := by decide +kernel
theorem kr : Lv cq "things" := by decide +kernel
theorem Kr : Lv cq "functions" := by decide +kernel
theorem Ks : Lv cq "arrays" := by decide +kernel
theorem Sa : Lv cq "names" := by decide +kernel
theorem ads : FnScope ["_law_script", "_law_k"] ["_law_script", "_law_k"] (ae Dx) := ⟨rfl, rfl, rfl, by decide +kernel, rfl, by decide +kernel, by decide +kernel⟩
theorem Sb : Lv Dx "_law_script" := by decide +kernel
theorem sd : Lv Dx "_law_k" := by decide +kernel
theorem Ek : FnScope ["_law_cell", "_law_many", "_law_letters", "_law_size", "_law_at", "_law_names_here", "_law_k", "_law_name", "_law_j", "_law_sign"] ["_law_cell", "_law_many"] (ae cb) := ⟨rfl, rfl, rfl, by decide +kernel, rfl, by decide +kernel, by decide +kernel⟩
theorem ku : Lv cb "_law_cell" := by decide +kernel
theorem adt : Lv cb "_law_many" := by decide +kernel
theorem se : Lv cb "_law_letters" := by decide +kernel
theorem Nn : Lv cb "_law_size" := by decide +kernel
theorem Se : Lv cb "_law_at" := by decide +kernel
theorem Np : Lv cb "_law_names_here" := by decide +kernel
theorem sf : Lv cb "_law_k" := by decide +kernel
theorem Ku : Lv cb "_law_name" := by decide +kernel
theorem nq : Lv cb "_law_j" := by decide +kernel
theorem Sf : Lv cb "_law_sign" := by decide +kernel
theorem fw : FnScope ["_law_lists_here", "_law_word", "e", "_law_others"] ["_law_lists_here"] (ae Dj) := ⟨rfl, rfl, rfl, by decide +kernel, rfl, by decide +kernel, by decide +kernel⟩
theorem ir : Lv Dj "_law_lists_here" := by decide +kernel
theorem Kv : Lv Dj "_law_word" := by decide +kernel
theorem Fb : Lv Dj "e" := by decide +kernel
theorem Gz : Lv Dj "_law_others" := by decide +kernel
theorem Nq : FnScope ["_law_cell", "_law_names_here", "_law_wholes", "_law_functions"] ["_law_cell", "_law_names_here"] (ae dk) := ⟨rfl, rfl, rfl, by decide +kernel, rfl, by decide +kernel, by decide +kernel⟩
theorem Ir : (ae dk).names.lookup (Str.ofString "_law_cell") = some NameKind.cell := by decide +kernel
theorem nr : (ae dk).names.lookup (Str.ofString "_law_names_here") = some NameKind.cell := by decide +kernel
theorem Sg : Lv dk "_law_wholes" := by decide +kernel
theorem sh : Lv dk "_law_functions" := by decide +kernel
theorem Sh : FnScope ["_law_cell", "_law_names_here", "_law_some"] ["_law_cell", "_law_names_here"] (ae Dp) := ⟨rfl, rfl, rfl, by decide +kernel, rfl, by decide +kernel, by decide +kernel⟩
theorem adu : Lv Dp "_law_cell" := by decide +kernel
theorem adv : Lv Dp "_law_names_here" := by decide +kernel
theorem si : Lv Dp "_law_some" := by decide +kernel
theorem iu : FnScope ["_law_cell", "_law_name", "_law_names_here", "_law_low", "_law_some"] ["_law_cell", "_law_name", "_law_names_here"] (ae dc) := ⟨rfl, rfl, rfl, by decide +kernel, rfl, by decide +kernel, by decide +kernel⟩
theorem Nr : Lv dc "_law_cell" := by decide +kernel
theorem dy : Lv dc "_law_name" := by decide +kernel
theorem adw : Lv dc "_law_names_here" := by decide +kernel
theorem fc : Lv dc "_law_low" := by decide +kernel
theorem Ha : Lv dc "_law_some" := by decide +kernel
theorem gh : FnScope ["_law_cell", "_law_name", "_law_names_here", "_law_some"] ["_law_cell", "_law_name", "_law_names_here"] (ae Dk) := ⟨rfl, rfl, rfl, by decide +kernel, rfl, by decide +kernel, by decide +kernel⟩
theorem Si : Lv Dk "_law_cell" := by decide +kernel
theorem Dd : Lv Dk "_law_name" := by decide +kernel
theorem adx : Lv Dk "_law_names_here" := by decide +kernel
theorem dq : Lv Dk "_law_some" := by decide +kernel
theorem nt : FnScope ["_law_lists_here", "_law_which", "_law_thing", "_law_cell", "_law_at", "_law_some"] ["_law_lists_here", "_law_which", "_law_thing", "_law_cell"] (ae Cv) := ⟨rfl, rfl, rfl, by decide +kernel, rfl, by decide +kernel, by decide +kernel⟩
theorem sj : Lv Cv "_law_lists_here" := by decide +kernel
theorem Kw : Lv Cv "_law_which" := by decide +kernel
theorem ady : Lv Cv "_law_thing" := by decide +kernel
theorem adz : Lv Cv "_law_cell" := by decide +kernel
theorem Nt : Lv Cv "_law_at" := by decide +kernel
theorem Iu : Lv Cv "_law_some" := by decide +kernel
theorem nu : FnScope ["_law_lists_here", "_law_names_here", "_law_rest", "_law_some", "_law_low"] ["_law_lists_here", "_law_names_here", "_law_rest"] (ae Dc) := ⟨rfl, rfl, rfl, by decide +kernel, rfl, by decide +kernel, by decide +kernel⟩
theorem aea : Lv Dc "_law_lists_here" := by decide +kernel
theorem Iv : Lv Dc "_law_names_here" := by decide +kernel
theorem iw : Lv Dc "_law_rest" := by decide +kernel
theorem Kx : Lv Dc "_law_some" := by decide +kernel
theorem Iw : Lv Dc "_law_low" := by decide +kernel
theorem Dl : FnScope ["_law_lists_here", "_law_names_here", "_law_cell", "_law_way", "_law_rest", "_law_which", "_law_some", "_law_there", "_law_name", "_law_twice", "_law_edge", "_law_thing", "_law_where"] ["_law_lists_here", "_law_names_here", "_law_cell"] (ae Bu) := ⟨rfl, rfl, rfl, by decide +kernel, rfl, by decide +kernel, by decide +kernel⟩
theorem de : Lv Bu "_law_lists_here" := by decide +kernel
theorem Em : Lv Bu "_law_names_here" := by decide +kernel
theorem Sj : Lv Bu "_law_cell" := by decide +kernel
theorem Hb : Lv Bu "_law_way" := by decide +kernel
theorem Bw : Lv Bu "_law_rest" := by decide +kernel
theorem iy : Lv Bu "_law_which" := by decide +kernel
theorem Nu : Lv Bu "_law_some" := by decide +kernel
theorem Nv : Lv Bu "_law_there" := by decide +kernel
theorem Gh : Lv Bu "_law_name" := by decide +kernel
theorem ky : Lv Bu "_law_twice" := by decide +kernel
theorem Ky : Lv Bu "_law_edge" := by decide +kernel
theorem sk : Lv Bu "_law_thing" := by decide +kernel
theorem Sk : Lv Bu "_law_where" := by decide +kernel
theorem Hc : FnScope ["_law_script", "_law_names_here", "_law_lists_here", "_law_k", "_law_wrong", "_law_due"] ["_law_script"] (ae Cf) := ⟨rfl, rfl, rfl, by decide +kernel, rfl, by decide +kernel, by decide +kernel⟩
theorem kz : Lv Cf "_law_script" := by decide +kernel
theorem Kz : Lv Cf "_law_names_here" := by decide +kernel
theorem La : Lv Cf "_law_lists_here" := by decide +kernel
theorem Sl : Lv Cf "_law_k" := by decide +kernel
theorem sm : Lv Cf "_law_wrong" := by decide +kernel
theorem Sm : Lv Cf "_law_due" := by decide +kernel
section
variable {n : Nat} (hw : cls.w = w) (T : Txt K mg ad fd cls) (ih : IH Pr w K mg base ad fd cls FF n)
include hw T ih
theorem aeb : Fk Pr w K mg base ad fd cls FF (n + 1) 1 ["thing"] 1 := by
 refine Bo (m := 2 * n + 1) (body' := kc) T.f_is_whole adb rfl fun cdv A outer s H E hrm => ?_
 have hr := hrm.mono (show 2 * n ≤ 2 * n + 1 by omega)
 have hu := hr.units
 subst hw
 refine Ad ?_ ?_
 refine Bd ?_
 refine Gr ?_ ?_
 refine Ew ?_ ?_ ?_ ?_ T.z_isinstance ?_ T.z_int ?_ ?_
 rfl
 decide
 exact fun n => fb (n := n) (x := "int") (by decide)
 rfl
 rfl
 rfl
 exact sv Rr
 refine ie ?_
 refine Yh ?_
 refine Ew ?_ ?_ ?_ ?_ T.z_isinstance ?_ T.z_bool ?_ ?_
 rfl
 decide
 exact fun n => fb (n := n) (x := "bool") (by decide)
 rfl
 rfl
 rfl
 exact sv Rr
 exact Af
theorem aec : Fk Pr w K mg base ad fd cls FF (n + 1) 2 ["thing"] 1 := by
 refine Bo (m := 2 * n + 1) (body' := ke) T.f_is_name ade rfl fun cdv A outer s H E hrm => ?_
 have hr := hrm.mono (show 2 * n ≤ 2 * n + 1 by omega)
 have hu := hr.units
 subst hw
 refine Ad ?_ ?_
 refine Bz ?_ ?_ ?_
 refine PW.pt ?_
 refine Fo ?_ ?_
 refine Dh ?_
 refine Cz ?_ ?_ ?_ ?_
 rfl
 refine Ew ?_ ?_ ?_ ?_ T.z_isinstance ?_ T.z_str ?_ ?_
 rfl
 decide
 exact fun n => fb (n := n) (x := "str") (by decide)
 rfl
 rfl
 rfl
 exact sv Nj
 exact Gu
 intro _; rfl
 refine Gs ?_
 refine Dh ?_
 refine Yq (c1 := .le) (c2 := .le) ?_ ?_ ?_ ?_ ?_ ?_
 rfl
 rfl
 exact hu
 exact Ab
 refine Gb ?_ ?_ T.z_len ?_
 rfl
 rfl
 refine aa ?_ ?_
 exact sv Nj
 exact Ac
 exact il (by rfl) T.gc_LONGEST_NAME.choose_spec.1 T.gc_LONGEST_NAME.choose_spec.2 (fun _ _ => by simp [DD.G.Rep, DD.Rep])
 refine Ad ?_ ?_
 refine Bd ?_
 exact fk
 exact Af
 exact Af
 refine Ad ?_ ?_
 refine Bd ?_
 refine Ig ?_ ?_ ?_ T.z_all ?_
 rfl
 rfl
 rfl
 refine aa ?_ ?_
 refine Gd (cl := []) (N := ["sign"]) (nl := 1) (fv := []) (tgs := [0]) (one := true) (k := 3) ?_ ?_ ?_ ?_ ?_ ?_ ?_ ?_ ?_ ?_ ?_ ?_ ?_ ?_
 rfl
 rfl
 rfl
 decide
 decide
 rfl
 refine cj ?_ ?_
 exact trivial
 rfl
 rfl
 refine Cj ?_
 exact trivial
 decide
 refine Zf ?_
 exact sv Nj
 intro L s0 H0 fp pn
 refine Ca ?_ ?_ ?_ ?_
 show List.Nodup (["sign"] : List Str); decide
 rfl
 exact Or.inl rfl
 refine Or.inr ?_
 exact rfl
 intro L s0 H0 fp pn
 exact Ci
 intro L s0 H0 fp pn
 refine Qg ?_ ?_ ?_ ?_ ?_
 rfl
 rfl
 exact hu
 refine ba 0 ?_
 exact pv 0
 exact il (by rfl) T.gc_LETTERS.choose_spec.1 T.gc_LETTERS.choose_spec.2 (fun _ _ => by simp [DD.G.Rep, DD.Rep])
 exact Ac
 exact Af
theorem aed : Fk Pr w K mg base ad fd cls FF (n + 1) 3 ["thing"] 1 := by
 refine Bo (m := 2 * n + 1) (body' := Ke) T.f_is_row adf rfl fun cdv A outer s H E hrm => ?_
 have hr := hrm.mono (show 2 * n ≤ 2 * n + 1 by omega)
 have hu := hr.units
 subst hw
 refine Ad ?_ ?_
 refine Bd ?_
 refine Gr ?_ ?_
 refine Ew ?_ ?_ ?_ ?_ T.z_isinstance ?_ T.z_tuple ?_ ?_
 rfl
 decide
 exact fun n => fb (n := n) (x := "tuple") (by decide)
 rfl
 rfl
 rfl
 exact sv nk
 refine Gr ?_ ?_
 refine Mf ?_ ?_ ?_ ?_
 rfl
 exact hu
 refine Gb ?_ ?_ T.z_len ?_
 rfl
 rfl
 refine aa ?_ ?_
 exact sv nk
 exact Ac
 exact Ab
 refine ie ?_
 refine Av ih.i_is_name hr (by rfl) T.m_is_name T.f_is_name.kp T.b_is_name .nil aw az (au rfl) ?_
 refine aa ?_ ?_
 refine Am ?_ ?_ ?_ ?_ ?_ ?_
 rfl
 rfl
 exact hu
 exact sv nk
 exact Ab
 intro _ _; rfl
 exact Ac
 exact Af
theorem aee : Fk Pr w K mg base ad fd cls FF (n + 1) 4 ["thing"] 1 := by
 refine Bo (m := 2 * n + 1) (body' := kf) T.f_is_kind adg rfl fun cdv A outer s H E hrm => ?_
 have hr := hrm.mono (show 2 * n ≤ 2 * n + 1 by omega)
 have hu := hr.units
 subst hw
 refine Ad ?_ ?_
 refine Bd ?_
 refine Gr ?_ ?_
 refine Ew ?_ ?_ ?_ ?_ T.z_isinstance ?_ T.z_str ?_ ?_
 rfl
 decide
 exact fun n => fb (n := n) (x := "str") (by decide)
 rfl
 rfl
 rfl
 exact sv Rt
 refine ie ?_
 refine Qg ?_ ?_ ?_ ?_ ?_
 rfl
 rfl
 exact hu
 exact sv Rt
 refine ah ?_
 refine aa ?_ ?_
 exact Ag
 refine aa ?_ ?_
 exact Ag
 exact Ac
 exact Af
theorem aef : Fk Pr w K mg base ad fd cls FF (n + 1) 5 ["thing"] 1 := by
 refine Bo (m := 2 * n + 1) (body' := kg) T.f_is_list_of_names adh rfl fun cdv A outer s H E hrm => ?_
 have hr := hrm.mono (show 2 * n ≤ 2 * n + 1 by omega)
 have hu := hr.units
 subst hw
 refine Ad ?_ ?_
 refine Bd ?_
 refine Gr ?_ ?_
 refine Ew ?_ ?_ ?_ ?_ T.z_isinstance ?_ T.z_list ?_ ?_
 rfl
 decide
 exact fun n => fb (n := n) (x := "list") (by decide)
 rfl
 rfl
 rfl
 exact sv Ru
 refine ie ?_
 refine Ig ?_ ?_ ?_ T.z_all ?_
 rfl
 rfl
 rfl
 refine aa ?_ ?_
 refine Gd (cl := []) (N := ["part"]) (nl := 1) (fv := []) (tgs := [0]) (one := true) (k := 0) ?_ ?_ ?_ ?_ ?_ ?_ ?_ ?_ ?_ ?_ ?_ ?_ ?_ ?_
 rfl
 rfl
 rfl
 decide
 decide
 rfl
 refine cj ?_ ?_
 exact trivial
 rfl
 rfl
 refine Cj ?_
 exact trivial
 decide
 refine di ?_ ?_
 rfl
 exact sv Ru
 intro L s0 H0 fp pn
 refine Ca ?_ ?_ ?_ ?_
 show List.Nodup (["part"] : List Str); decide
 rfl
 exact Or.inl rfl
 refine Or.inr ?_
 exact rfl
 intro L s0 H0 fp pn
 exact Ci
 intro L s0 H0 fp pn
 refine Av ih.i_is_name hr (by rfl) T.m_is_name T.f_is_name.kp T.b_is_name .nil aw Kb (au rfl) ?_
 refine aa ?_ ?_
 refine ba 0 ?_
 exact pv 0
 exact Ac
 exact Ac
 exact Af
theorem aeg : Fk Pr w K mg base ad fd cls FF (n + 1) 6 ["thing"] 1 := by
 refine Bo (m := 2 * n + 1) (body' := Kg) T.f_is_bounded adi rfl fun cdv A outer s H E hrm => ?_
 have hr := hrm.mono (show 2 * n ≤ 2 * n + 1 by omega)
 have hu := hr.units
 subst hw
 refine Ad ?_ ?_
 refine Bz ?_ ?_ ?_
 refine PW.pt ?_
 refine Fo ?_ ?_
 refine Dh ?_
 refine Cz ?_ ?_ ?_ ?_
 rfl
 refine Av ih.i_is_row hr (by rfl) T.m_is_row T.f_is_row.kp T.b_is_row .nil aw az (au rfl) ?_
 refine aa ?_ ?_
 exact sv Gy
 exact Ac
 exact gu
 intro _; rfl
 refine Fo ?_ ?_
 refine Dh ?_
 refine Cz ?_ ?_ ?_ ?_
 rfl
 refine Av ih.i_is_whole hr (by rfl) T.m_is_whole T.f_is_whole.kp T.b_is_whole .nil aw az (au rfl) ?_
 refine aa ?_ ?_
 refine Am ?_ ?_ ?_ ?_ ?_ ?_
 rfl
 rfl
 exact hu
 exact sv Gy
 exact Ab
 intro _ _; rfl
 exact Ac
 exact gu
 intro _; rfl
 refine Gs ?_
 refine Dh ?_
 refine Cz ?_ ?_ ?_ ?_
 rfl
 refine Av ih.i_is_whole hr (by rfl) T.m_is_whole T.f_is_whole.kp T.b_is_whole .nil aw az (au rfl) ?_
 refine aa ?_ ?_
 refine Am ?_ ?_ ?_ ?_ ?_ ?_
 rfl
 rfl
 exact hu
 exact sv Gy
 exact Ab
 intro _ _; rfl
 exact Ac
 exact gu
 intro _; rfl
 refine Ad ?_ ?_
 refine Bd ?_
 exact fk
 exact Af
 exact Af
 refine Ad ?_ ?_
 refine Bd ?_
 refine ql (c1 := .le) (c2 := .le) ?_ ?_ ?_ ?_ ?_ ?_
 rfl
 rfl
 exact hu
 refine Am ?_ ?_ ?_ ?_ ?_ ?_
 rfl
 rfl
 exact hu
 exact sv Gy
 exact Ab
 intro _ _; rfl
 refine Am ?_ ?_ ?_ ?_ ?_ ?_
 rfl
 rfl
 exact hu
 exact sv Gy
 exact Ab
 intro _ _; rfl
 refine As ?_ ?_
 refine Am ?_ ?_ ?_ ?_ ?_ ?_
 rfl
 rfl
 exact hu
 exact sv Gy
 exact Ab
 intro _ _; rfl
 exact il (by rfl) T.gc_WIDEST_BOUNDS.choose_spec.1 T.gc_WIDEST_BOUNDS.choose_spec.2 (fun _ _ => by simp [DD.G.Rep, DD.Rep])
 exact Af
theorem aeh : Fk Pr w K mg base ad fd cls FF (n + 1) 7 ["thing"] 1 := by
 refine Bo (m := 2 * n + 1) (body' := kh) T.f_is_function adj rfl fun cdv A outer s H E hrm => ?_
 have hr := hrm.mono (show 2 * n ≤ 2 * n + 1 by omega)
 have hu := hr.units
 subst hw
 refine Ad ?_ ?_
 refine Bz ?_ ?_ ?_
 refine PW.pt ?_
 refine Fo ?_ ?_
 refine Dh ?_
 refine Cz ?_ ?_ ?_ ?_
 rfl
 refine Av ih.i_is_row hr (by rfl) T.m_is_row T.f_is_row.kp T.b_is_row .nil aw az (au rfl) ?_
 refine aa ?_ ?_
 exact sv iq
 exact Ac
 exact gu
 intro _; rfl
 refine Fo ?_ ?_
 refine Dh ?_
 refine Cz ?_ ?_ ?_ ?_
 rfl
 refine Ew ?_ ?_ ?_ ?_ T.z_isinstance ?_ T.z_tuple ?_ ?_
 rfl
 decide
 exact fun n => fb (n := n) (x := "tuple") (by decide)
 rfl
 rfl
 rfl
 refine Am ?_ ?_ ?_ ?_ ?_ ?_
 rfl
 rfl
 exact hu
 exact sv iq
 exact Ab
 intro _ _; rfl
 exact Gu
 intro _; rfl
 refine Gs ?_
 refine Dh ?_
 refine Cz ?_ ?_ ?_ ?_
 rfl
 refine Av ih.i_is_kind hr (by rfl) T.m_is_kind T.f_is_kind.kp T.b_is_kind .nil aw az (au rfl) ?_
 refine aa ?_ ?_
 refine Am ?_ ?_ ?_ ?_ ?_ ?_
 rfl
 rfl
 exact hu
 exact sv iq
 exact Ab
 intro _ _; rfl
 exact Ac
 exact gu
 intro _; rfl
 refine Ad ?_ ?_
 refine Bd ?_
 exact fk
 exact Af
 exact Af
 refine Ad ?_ ?_
 refine Bd ?_
 refine Gr ?_ ?_
 refine ql (c1 := .le) (c2 := .le) ?_ ?_ ?_ ?_ ?_ ?_
 rfl
 rfl
 exact hu
 exact Ab
 refine Gb ?_ ?_ T.z_len ?_
 rfl
 rfl
 refine aa ?_ ?_
 refine Am ?_ ?_ ?_ ?_ ?_ ?_
 rfl
 rfl
 exact hu
 exact sv iq
 exact Ab
 intro _ _; rfl
 exact Ac
 exact il (by rfl) T.gc_MOST_KINDS.choose_spec.1 T.gc_MOST_KINDS.choose_spec.2 (fun _ _ => by simp [DD.G.Rep, DD.Rep])
 refine ie ?_
 refine Ig ?_ ?_ ?_ T.z_all ?_
 rfl
 rfl
 rfl
 refine aa ?_ ?_
 refine Gd (cl := []) (N := ["part"]) (nl := 1) (fv := []) (tgs := [0]) (one := true) (k := 1) ?_ ?_ ?_ ?_ ?_ ?_ ?_ ?_ ?_ ?_ ?_ ?_ ?_ ?_
 rfl
 rfl
 rfl
 decide
 decide
 rfl
 refine cj ?_ ?_
 exact trivial
 rfl
 rfl
 refine Cj ?_
 exact trivial
 decide
 refine Zc ?_ ?_
 rfl
 refine Am ?_ ?_ ?_ ?_ ?_ ?_
 rfl
 rfl
 exact hu
 exact sv iq
 exact Ab
 intro _ _; rfl
 intro L s0 H0 fp pn
 refine Ca ?_ ?_ ?_ ?_
 show List.Nodup (["part"] : List Str); decide
 rfl
 exact Or.inl rfl
 refine Or.inr ?_
 exact rfl
 intro L s0 H0 fp pn
 exact Ci
 intro L s0 H0 fp pn
 refine Av ih.i_is_kind hr (by rfl) T.m_is_kind T.f_is_kind.kp T.b_is_kind .nil aw Kb (au rfl) ?_
 refine aa ?_ ?_
 refine ba 0 ?_
 exact pv 0
 exact Ac
 exact Ac
 exact Af
theorem aei : Fk Pr w K mg base ad fd cls FF (n + 1) 8 ["wholes"] 1 := by
 refine Bo (m := 2 * n + 1) (body' := ki) T.f_check_wholes gz rfl fun cdv A outer s H E hrm => ?_
 have hr := hrm.mono (show 2 * n ≤ 2 * n + 1 by omega)
 have hu := hr.units
 subst hw
 refine Ad ?_ ?_
 refine Bz ?_ ?_ ?_
 refine PW.pt ?_
 refine Fo ?_ ?_
 refine Dh ?_
 refine Cz ?_ ?_ ?_ ?_
 rfl
 refine Ew ?_ ?_ ?_ ?_ T.z_isinstance ?_ T.z_list ?_ ?_
 rfl
 decide
 exact fun n => fb (n := n) (x := "list") (by decide)
 rfl
 rfl
 rfl
 exact sv Nk
 exact Gu
 intro _; rfl
 refine Gs ?_
 refine Dh ?_
 refine Cz ?_ ?_ ?_ ?_
 rfl
 refine Ig ?_ ?_ ?_ T.z_all ?_
 rfl
 rfl
 rfl
 refine aa ?_ ?_
 refine Gd (cl := []) (N := ["row"]) (nl := 1) (fv := []) (tgs := [0]) (one := true) (k := 0) ?_ ?_ ?_ ?_ ?_ ?_ ?_ ?_ ?_ ?_ ?_ ?_ ?_ ?_
 rfl
 rfl
 rfl
 decide
 decide
 rfl
 refine cj ?_ ?_
 exact trivial
 rfl
 rfl
 refine Cj ?_
 exact trivial
 decide
 refine di ?_ ?_
 rfl
 exact sv Nk
 intro L s0 H0 fp pn
 refine Ca ?_ ?_ ?_ ?_
 show List.Nodup (["row"] : List Str); decide
 rfl
 exact Or.inl rfl
 refine Or.inr ?_
 exact rfl
 intro L s0 H0 fp pn
 exact Ci
 intro L s0 H0 fp pn
 refine Av ih.i_is_bounded hr (by rfl) T.m_is_bounded T.f_is_bounded.kp T.b_is_bounded .nil aw Kb (au rfl) ?_
 refine aa ?_ ?_
 refine ba 0 ?_
 exact pv 0
 exact Ac
 exact Ac
 exact Qw
 intro _; rfl
 refine Ad ?_ ?_
 refine ig ?_ ?_ ?_ T.nc_BadNames T.mc_BadNames T.xc_BadNames
 exact Ia
 exact hr.hd
 rfl
 exact Af
 exact Af
 refine Ad ?_ ?_
 refine ax (i := 1) ?_ ?_ ?_ ?_
 exact gz.nd
 rfl
 exact Or.inl Nl
 exact Ab
 refine Ad ?_ ?_
 refine ym (is := [2, 3, 4]) ?_ ?_ ?_ ?_ ?_ ?_
 rfl
 exact PassesOwn.leaving
 rfl
 exact sv Nk
 refine Hq ?_ ?_
 rfl
 refine dg ?_ ?_
 refine cy (i := 2) ?_ ?_ ?_
 exact gz.nd
 rfl
 exact Or.inl adk
 refine dg ?_ ?_
 refine cy (i := 3) ?_ ?_ ?_
 exact gz.nd
 rfl
 exact Or.inl Rv
 refine dg ?_ ?_
 refine cy (i := 4) ?_ ?_ ?_
 exact gz.nd
 rfl
 exact Or.inl Rw
 exact Ho
 refine Ad ?_ ?_
 refine Yv (i := 1) ?_ ?_ ?_ ?_
 exact gz.nd
 rfl
 exact Or.inl Nl
 refine As ?_ ?_
 refine gr ?_ ?_
 exact sv Rw
 exact sv Rv
 exact Ab
 exact Af
 refine Ad ?_ ?_
 refine Bz ?_ ?_ ?_
 refine Yd ?_ ?_
 exact sv Nl
 exact il (by rfl) T.gc_MOST_VALUES.choose_spec.1 T.gc_MOST_VALUES.choose_spec.2 (fun _ _ => by simp [DD.G.Rep, DD.Rep])
 refine Ad ?_ ?_
 refine ig ?_ ?_ ?_ T.nc_BadNames T.mc_BadNames T.xc_BadNames
 exact Ia
 exact hr.hd
 rfl
 exact Af
 exact Af
 exact Af
theorem aej : Fk Pr w K mg base ad fd cls FF (n + 1) 9 ["functions"] 1 := by
 refine Bo (m := 2 * n + 1) (body' := Ki) T.f_check_functions adl rfl fun cdv A outer s H E hrm => ?_
 have hr := hrm.mono (show 2 * n ≤ 2 * n + 1 by omega)
 have hu := hr.units
 subst hw
 refine Ad ?_ ?_
 refine Bz ?_ ?_ ?_
 refine PW.pt ?_
 refine Fo ?_ ?_
 refine Dh ?_
 refine Cz ?_ ?_ ?_ ?_
 rfl
 refine Ew ?_ ?_ ?_ ?_ T.z_isinstance ?_ T.z_list ?_ ?_
 rfl
 decide
 exact fun n => fb (n := n) (x := "list") (by decide)
 rfl
 rfl
 rfl
 exact sv Rx
 exact Gu
 intro _; rfl
 refine Gs ?_
 refine Dh ?_
 refine Cz ?_ ?_ ?_ ?_
 rfl
 refine Ig ?_ ?_ ?_ T.z_all ?_
 rfl
 rfl
 rfl
 refine aa ?_ ?_
 refine Gd (cl := []) (N := ["row"]) (nl := 1) (fv := []) (tgs := [0]) (one := true) (k := 0) ?_ ?_ ?_ ?_ ?_ ?_ ?_ ?_ ?_ ?_ ?_ ?_ ?_ ?_
 rfl
 rfl
 rfl
 decide
 decide
 rfl
 refine cj ?_ ?_
 exact trivial
 rfl
 rfl
 refine Cj ?_
 exact trivial
 decide
 refine di ?_ ?_
 rfl
 exact sv Rx
 intro L s0 H0 fp pn
 refine Ca ?_ ?_ ?_ ?_
 show List.Nodup (["row"] : List Str); decide
 rfl
 exact Or.inl rfl
 refine Or.inr ?_
 exact rfl
 intro L s0 H0 fp pn
 exact Ci
 intro L s0 H0 fp pn
 refine Av ih.i_is_function hr (by rfl) T.m_is_function T.f_is_function.kp T.b_is_function .nil aw Kb (au rfl) ?_
 refine aa ?_ ?_
 refine ba 0 ?_
 exact pv 0
 exact Ac
 exact Ac
 exact Qw
 intro _; rfl
 refine Ad ?_ ?_
 refine ig ?_ ?_ ?_ T.nc_BadNames T.mc_BadNames T.xc_BadNames
 exact Ia
 exact hr.hd
 rfl
 exact Af
 exact Af
 exact Af
theorem aek : Fk Pr w K mg base ad fd cls FF (n + 1) 10 ["names"] 1 := by
 refine Bo (m := 2 * n + 1) (body' := kj) T.f_check_names adm rfl fun cdv A outer s H E hrm => ?_
 have hr := hrm.mono (show 2 * n ≤ 2 * n + 1 by omega)
 have hu := hr.units
 subst hw
 refine Ad ?_ ?_
 refine Bz ?_ ?_ ?_
 refine Dh ?_
 refine Cz ?_ ?_ ?_ ?_
 rfl
 refine Av ih.i_is_list_of_names hr (by rfl) T.m_is_list_of_names T.f_is_list_of_names.kp T.b_is_list_of_names .nil aw az (au rfl) ?_
 refine aa ?_ ?_
 exact sv adn
 exact Ac
 exact gu
 intro _; rfl
 refine Ad ?_ ?_
 refine ig ?_ ?_ ?_ T.nc_BadNames T.mc_BadNames T.xc_BadNames
 exact Ia
 exact hr.hd
 rfl
 exact Af
 exact Af
 exact Af
theorem ael : Fk Pr w K mg base ad fd cls FF (n + 1) 11 ["rows"] 1 := by
 refine Bo (m := 2 * n + 1) (body' := Ip) T.f_first_parts ado rfl fun cdv A outer s H E hrm => ?_
 have hr := hrm.mono (show 2 * n ≤ 2 * n + 1 by omega)
 have hu := hr.units
 subst hw
 refine Ad ?_ ?_
 refine Bd ?_
 refine Gd (cl := []) (N := ["row"]) (nl := 1) (fv := []) (tgs := [0]) (one := true) (k := 0) ?_ ?_ ?_ ?_ ?_ ?_ ?_ ?_ ?_ ?_ ?_ ?_ ?_ ?_
 rfl
 rfl
 rfl
 decide
 decide
 rfl
 refine cj ?_ ?_
 exact trivial
 rfl
 rfl
 refine Cj ?_
 exact trivial
 decide
 refine di ?_ ?_
 rfl
 exact sv adp
 intro L s0 H0 fp pn
 refine Ca ?_ ?_ ?_ ?_
 show List.Nodup (["row"] : List Str); decide
 rfl
 exact Or.inl rfl
 refine Or.inr ?_
 exact rfl
 intro L s0 H0 fp pn
 exact Ci
 intro L s0 H0 fp pn
 refine Am ?_ ?_ ?_ ?_ ?_ ?_
 rfl
 rfl
 exact hu
 refine ba 0 ?_
 exact pv 0
 exact Ab
 intro _ _; rfl
 exact Af
theorem aem : Fk Pr w K mg base ad fd cls FF (n + 1) 12 ["names"] 1 := by
 refine Bo (m := 2 * n + 1) (body' := Gx) T.f_check_unlike adq rfl fun cdv A outer s H E hrm => ?_
 have hr := hrm.mono (show 2 * n ≤ 2 * n + 1 by omega)
 have hu := hr.units
 subst hw
 refine Ad ?_ ?_
 refine Bz ?_ ?_ ?_
 refine Mg ?_ ?_ ?_ ?_
 rfl
 exact hu
 refine zo ?_ ?_ ?_ T.z_len ?_ T.z_set ?_
 rfl
 rfl
 rfl
 rfl
 exact sv Ry
 refine Gb ?_ ?_ T.z_len ?_
 rfl
 rfl
 refine aa ?_ ?_
 exact sv Ry
 exact Ac
 refine Ad ?_ ?_
 refine ig ?_ ?_ ?_ T.nc_BadNames T.mc_BadNames T.xc_BadNames
 exact Ia
 exact hr.hd
 rfl
 exact Af
 exact Af
 exact Af
theorem aen : Fk Pr w K mg base ad fd cls FF (n + 1) 13 ["self", "numbers", "wholes", "things", "functions", "arrays"] 6 := by
 refine Bo (m := 2 * n + 1) (body' := gy) T.f_Names_9__init__ Rz rfl fun cdv A outer s H E hrm => ?_
 have hr := hrm.mono (show 2 * n ≤ 2 * n + 1 by omega)
 have hu := hr.units
 subst hw
 refine Ad ?_ ?_
 refine Ym (is := [6]) ?_ ?_ ?_ ?_ ?_ ?_
 rfl
 exact PassesOwn.leaving
 rfl
 refine ah ?_
 refine aa ?_ ?_
 exact sv Kq
 refine aa ?_ ?_
 exact sv kr
 refine aa ?_ ?_
 exact sv Ks
 exact Ac
 refine Ca ?_ ?_ ?_
 exact Rz.nd
 rfl
 exact Or.inl Sa
 refine Ad ?_ ?_
 refine Fp ?_
 refine Av ih.i_check_names hr (by rfl) T.m_check_names T.f_check_names.kp T.b_check_names .nil aw az (au rfl) ?_
 refine aa ?_ ?_
 exact sv Sa
 exact Ac
 exact Af
 refine Ad ?_ ?_
 refine Fp ?_
 refine Av ih.i_check_wholes hr (by rfl) T.m_check_wholes T.f_check_wholes.kp T.b_check_wholes .nil aw az (au rfl) ?_
 refine aa ?_ ?_
 exact sv Iq
 exact Ac
 refine Ad ?_ ?_
 refine Fp ?_
 refine Av ih.i_check_functions hr (by rfl) T.m_check_functions T.f_check_functions.kp T.b_check_functions .nil aw az (au rfl) ?_
 refine aa ?_ ?_
 exact sv Kr
 exact Ac
 refine Ad ?_ ?_
 refine Fp ?_
 refine Av ih.i_check_unlike hr (by rfl) T.m_check_unlike T.f_check_unlike.kp T.b_check_unlike .nil aw az (au rfl) ?_
 refine aa ?_ ?_
 refine As ?_ ?_
 refine As ?_ ?_
 refine As ?_ ?_
 refine As ?_ ?_
 exact sv Kq
 refine Av ih.i_first_parts hr (by rfl) T.m_first_parts T.f_first_parts.kp T.b_first_parts .nil aw az (au rfl) ?_
 refine aa ?_ ?_
 exact sv Iq
 exact Ac
 exact sv kr
 refine Av ih.i_first_parts hr (by rfl) T.m_first_parts T.f_first_parts.kp T.b_first_parts .nil aw az (au rfl) ?_
 refine aa ?_ ?_
 exact sv Kr
 exact Ac
 exact sv Ks
 exact Ac
 refine Ad ?_ ?_
 refine fq T.cl_Names T.na_Names_numbers ?_ ?_
 exact sv Ej
 refine fo ?_ ?_ T.z_list ?_
 rfl
 rfl
 refine aa ?_ ?_
 exact sv Kq
 exact Ac
 refine Ad ?_ ?_
 refine fq T.cl_Names T.na_Names_wholes ?_ ?_
 exact sv Ej
 refine fo ?_ ?_ T.z_list ?_
 rfl
 rfl
 refine aa ?_ ?_
 exact sv Iq
 exact Ac
 refine Ad ?_ ?_
 refine fq T.cl_Names T.na_Names_things ?_ ?_
 exact sv Ej
 refine fo ?_ ?_ T.z_list ?_
 rfl
 rfl
 refine aa ?_ ?_
 exact sv kr
 exact Ac
 refine Ad ?_ ?_
 refine fq T.cl_Names T.na_Names_functions ?_ ?_
 exact sv Ej
 refine fo ?_ ?_ T.z_list ?_
 rfl
 rfl
 refine aa ?_ ?_
 exact sv Kr
 exact Ac
 refine Ad ?_ ?_
 refine fq T.cl_Names T.na_Names_arrays ?_ ?_
 exact sv Ej
 refine fo ?_ ?_ T.z_list ?_
 rfl
 rfl
 refine aa ?_ ?_
 exact sv Ks
 exact Ac
 refine Ad ?_ ?_
 refine fq T.cl_Names T.na_Names_limits ?_ ?_
 exact sv Ej
 refine Ij (cl := []) (N := ["name", "low", "high"]) (nl := 3) (fv := []) (tgs := [0, 1, 2]) (one := false) (k := 0) ?_ ?_ ?_ ?_ ?_ ?_ ?_ ?_ ?_ ?_ ?_ ?_ ?_ ?_ ?_
 rfl
 rfl
 rfl
 decide
 decide
 rfl
 refine cj ?_ ?_
 exact trivial
 rfl
 rfl
 refine Cj ?_
 exact trivial
 decide
 refine di ?_ ?_
 rfl
 exact sv Iq
 intro L s0 H0 fp pn
 refine Hq ?_ ?_
 rfl
 refine dg ?_ ?_
 refine cy (i := 0) ?_ ?_ ?_ ?_
 show List.Nodup (["name", "low", "high"] : List Str); decide
 rfl
 exact Or.inl rfl
 refine Or.inr ?_
 exact rfl
 refine dg ?_ ?_
 refine cy (i := 1) ?_ ?_ ?_ ?_
 show List.Nodup (["name", "low", "high"] : List Str); decide
 rfl
 exact Or.inl rfl
 refine Or.inr ?_
 exact rfl
 refine dg ?_ ?_
 refine cy (i := 2) ?_ ?_ ?_ ?_
 show List.Nodup (["name", "low", "high"] : List Str); decide
 rfl
 exact Or.inl rfl
 refine Or.inr ?_
 exact rfl
 exact Ho
 intro L s0 H0 fp pn
 exact Ci
 intro L s0 H0 fp pn
 refine ba 0 ?_
 exact pv 0
 intro L s0 H0 fp pn
 refine ah ?_
 refine aa ?_ ?_
 refine ba 1 ?_
 exact pv 1
 refine aa ?_ ?_
 refine ba 2 ?_
 exact pv 2
 exact Ac
 refine Ad ?_ ?_
 refine fq T.cl_Names T.na_Names_deeds ?_ ?_
 exact sv Ej
 refine Ij (cl := []) (N := ["name", "kinds", "kind"]) (nl := 3) (fv := []) (tgs := [0, 1, 2]) (one := false) (k := 0) ?_ ?_ ?_ ?_ ?_ ?_ ?_ ?_ ?_ ?_ ?_ ?_ ?_ ?_ ?_
 rfl
 rfl
 rfl
 decide
 decide
 rfl
 refine cj ?_ ?_
 exact trivial
 rfl
 rfl
 refine Cj ?_
 exact trivial
 decide
 refine di ?_ ?_
 rfl
 exact sv Kr
 intro L s0 H0 fp pn
 refine Hq ?_ ?_
 rfl
 refine dg ?_ ?_
 refine cy (i := 0) ?_ ?_ ?_ ?_
 show List.Nodup (["name", "kinds", "kind"] : List Str); decide
 rfl
 exact Or.inl rfl
 refine Or.inr ?_
 exact rfl
 refine dg ?_ ?_
 refine cy (i := 1) ?_ ?_ ?_ ?_
 show List.Nodup (["name", "kinds", "kind"] : List Str); decide
 rfl
 exact Or.inl rfl
 refine Or.inr ?_
 exact rfl
 refine dg ?_ ?_
 refine cy (i := 2) ?_ ?_ ?_ ?_
 show List.Nodup (["name", "kinds", "kind"] : List Str); decide
 rfl
 exact Or.inl rfl
 refine Or.inr ?_
 exact rfl
 exact Ho
 intro L s0 H0 fp pn
 exact Ci
 intro L s0 H0 fp pn
 refine ba 0 ?_
 exact pv 0
 intro L s0 H0 fp pn
 refine ah ?_
 refine aa ?_ ?_
 refine ba 1 ?_
 exact pv 1
 refine aa ?_ ?_
 refine ba 2 ?_
 exact pv 2
 exact Ac
 refine Ad ?_ ?_
 refine fq T.cl_Names T.na_Names_unknowns ?_ ?_
 exact sv Ej
 refine Ij (cl := []) (N := ["name"]) (nl := 1) (fv := []) (tgs := [0]) (one := true) (k := 0) ?_ ?_ ?_ ?_ ?_ ?_ ?_ ?_ ?_ ?_ ?_ ?_ ?_ ?_ ?_
 rfl
 rfl
 rfl
 decide
 decide
 rfl
 refine cj ?_ ?_
 exact trivial
 rfl
 rfl
 refine Cj ?_
 exact trivial
 decide
 refine di ?_ ?_
 rfl
 refine As ?_ ?_
 exact sv Kq
 refine Av ih.i_first_parts hr (by rfl) T.m_first_parts T.f_first_parts.kp T.b_first_parts .nil aw az (au rfl) ?_
 refine aa ?_ ?_
 exact sv Iq
 exact Ac
 intro L s0 H0 fp pn
 refine Ca ?_ ?_ ?_ ?_
 show List.Nodup (["name"] : List Str); decide
 rfl
 exact Or.inl rfl
 refine Or.inr ?_
 exact rfl
 intro L s0 H0 fp pn
 exact Ci
 intro L s0 H0 fp pn
 refine ba 0 ?_
 exact pv 0
 intro L s0 H0 fp pn
 exact Ag
 refine Ad ?_ ?_
 refine Fp ?_
 refine qw ?_ ?_
 refine Qn T.cl_Names T.na_Names_unknowns ?_
 exact sv Ej
 refine Ij (cl := []) (N := ["name"]) (nl := 1) (fv := []) (tgs := [0]) (one := true) (k := 0) ?_ ?_ ?_ ?_ ?_ ?_ ?_ ?_ ?_ ?_ ?_ ?_ ?_ ?_ ?_
 rfl
 rfl
 rfl
 decide
 decide
 rfl
 refine cj ?_ ?_
 exact trivial
 rfl
 rfl
 refine Cj ?_
 exact trivial
 decide
 refine di ?_ ?_
 rfl
 exact sv kr
 intro L s0 H0 fp pn
 refine Ca ?_ ?_ ?_ ?_
 show List.Nodup (["name"] : List Str); decide
 rfl
 exact Or.inl rfl
 refine Or.inr ?_
 exact rfl
 intro L s0 H0 fp pn
 exact Ci
 intro L s0 H0 fp pn
 refine ba 0 ?_
 exact pv 0
 intro L s0 H0 fp pn
 exact Ag
 refine Ad ?_ ?_
 refine Fp ?_
 refine qw ?_ ?_
 refine Qn T.cl_Names T.na_Names_unknowns ?_
 exact sv Ej
 refine Ij (cl := []) (N := ["name"]) (nl := 1) (fv := []) (tgs := [0]) (one := true) (k := 0) ?_ ?_ ?_ ?_ ?_ ?_ ?_ ?_ ?_ ?_ ?_ ?_ ?_ ?_ ?_
 rfl
 rfl
 rfl
 decide
 decide
 rfl
 refine cj ?_ ?_
 exact trivial
 rfl
 rfl
 refine Cj ?_
 exact trivial
 decide
 refine di ?_ ?_
 rfl
 exact sv Ks
 intro L s0 H0 fp pn
 refine Ca ?_ ?_ ?_ ?_
 show List.Nodup (["name"] : List Str); decide
 rfl
 exact Or.inl rfl
 refine Or.inr ?_
 exact rfl
 intro L s0 H0 fp pn
 exact Ci
 intro L s0 H0 fp pn
 refine ba 0 ?_
 exact pv 0
 intro L s0 H0 fp pn
 exact Ag
 exact Af
theorem aeo : Fk Pr w K mg base ad fd cls FF (n + 1) 22 ["_law_script", "_law_k"] 2 := by
 refine Bo (m := 2 * n + 1) (body' := Kj) T.f__law_cell_at ads rfl fun cdv A outer s H E hrm => ?_
 have hr := hrm.mono (show 2 * n ≤ 2 * n + 1 by omega)
 have hu := hr.units
 subst hw
 refine Ad ?_ ?_
 refine Bz ?_ ?_ ?_
 refine yd ?_ ?_
 exact sv sd
 refine Gb ?_ ?_ T.z_len ?_
 rfl
 rfl
 refine aa ?_ ?_
 exact sv Sb
 exact Ac
 refine Ad ?_ ?_
 refine Bd ?_
 refine Am ?_ ?_ ?_ ?_ ?_ ?_
 rfl
 rfl
 exact hu
 exact sv Sb
 exact sv sd
 intro _ _; rfl
 exact Af
 exact Af
 refine Ad ?_ ?_
 refine Bd ?_
 exact Ab
 exact Af
theorem aep : Fk Pr w K mg base ad fd cls FF (n + 1) 23 ["_law_cell", "_law_many"] 2 := by
 refine Bo (m := 2 * n + 1) (body' := Kk) T.f__law_names Ek rfl fun cdv A outer s H E hrm => ?_
 have hr := hrm.mono (show 2 * n ≤ 2 * n + 1 by omega)
 have hu := hr.units
 subst hw
 refine Ad ?_ ?_
 refine ax (i := 2) ?_ ?_ ?_ ?_
 exact Ek.nd
 rfl
 exact Or.inl se
 exact Ag
 refine Ad ?_ ?_
 refine ax (i := 3) ?_ ?_ ?_ ?_
 exact Ek.nd
 rfl
 exact Or.inl Nn
 refine As ?_ ?_
 exact Ab
 refine bb ?_ ?_
 exact sv ku
 exact Ab
 refine Ad ?_ ?_
 refine ax (i := 4) ?_ ?_ ?_ ?_
 exact Ek.nd
 rfl
 exact Or.inl Se
 refine bb ?_ ?_
 refine bb ?_ ?_
 refine Bk ?_ ?_
 exact sv ku
 exact Ab
 exact Ab
 exact sv Nn
 refine Ad ?_ ?_
 refine ax (i := 5) ?_ ?_ ?_ ?_
 exact Ek.nd
 rfl
 exact Or.inl Np
 refine Ba ?_
 exact Ac
 refine Ad ?_ ?_
 refine Ml (is := [6]) ?_ ?_ ?_ T.z_range ?_ ?_ ?_
 exact PassesOwn.leaving
 rfl
 rfl
 exact sv adt
 refine Ca ?_ ?_ ?_
 exact Ek.nd
 rfl
 exact Or.inl sf
 refine Ad ?_ ?_
 refine ax (i := 7) ?_ ?_ ?_ ?_
 exact Ek.nd
 rfl
 exact Or.inl Ku
 exact Ag
 refine Ad ?_ ?_
 refine Ml (is := [8]) ?_ ?_ ?_ T.z_range ?_ ?_ ?_
 exact PassesOwn.leaving
 rfl
 rfl
 exact sv Nn
 refine Ca ?_ ?_ ?_
 exact Ek.nd
 rfl
 exact Or.inl nq
 refine Ad ?_ ?_
 refine ax (i := 9) ?_ ?_ ?_ ?_
 exact Ek.nd
 rfl
 exact Or.inl Sf
 refine As ?_ ?_
 refine As ?_ ?_
 refine Bk ?_ ?_
 exact sv ku
 exact Ab
 refine Ga ?_ ?_ ?_
 rfl
 exact sv nq
 refine As ?_ ?_
 exact Ab
 refine bb ?_ ?_
 exact sv ku
 exact Ab
 refine Ga ?_ ?_ ?_
 rfl
 exact sv sf
 refine yi ?_ T.z_int ?_
 rfl
 refine aa ?_ ?_
 refine Mf ?_ ?_ ?_ ?_
 rfl
 exact hu
 exact sv nq
 exact sv Se
 exact Ac
 refine Ad ?_ ?_
 refine ax (i := 7) ?_ ?_ ?_ ?_
 exact Ek.nd
 rfl
 exact Or.inl Ku
 refine As ?_ ?_
 exact sv Ku
 refine Am ?_ ?_ ?_ ?_ ?_ ?_
 rfl
 rfl
 exact hu
 exact sv se
 refine bb ?_ ?_
 exact sv Sf
 exact Ab
 intro _ _; rfl
 exact Af
 refine Ad ?_ ?_
 refine Fp ?_
 refine yn ?_ ?_ ?_
 rfl
 exact sv Np
 exact sv Ku
 exact Af
 refine Ad ?_ ?_
 refine Bd ?_
 exact sv Np
 exact Af
theorem aeq : Fk Pr w K mg base ad fd cls FF (n + 1) 24 ["_law_lists_here"] 1 := by
 refine Bo (m := 2 * n + 1) (body' := Kl) T.f__law_said fw rfl fun cdv A outer s H E hrm => ?_
 have hr := hrm.mono (show 2 * n ≤ 2 * n + 1 by omega)
 have hu := hr.units
 subst hw
 refine Ad ?_ ?_
 refine ax (i := 1) ?_ ?_ ?_ ?_
 exact fw.nd
 rfl
 exact Or.inl Kv
 exact Ag
 refine Ad ?_ ?_
 refine Yo (i := 2) (C := 0) ?_ ?_ ?_ ?_ ?_ ?_ ?_ ?_ T.mc_PartError T.x_PartError ?_ ?_
 intro _; rfl
 rfl
 rfl
 rfl
 exact fw.nd
 rfl
 exact Fb
 rfl
 intro pn E0 xe0 hp0 hx0
 refine Ad ?_ ?_
 refine Fp ?_
 refine Yy (k := 2 * n) (np := 6) T.k_Names ?_ ?_ ?_ T.mc_Names T.b_Names_9__init__ ?_ ?_ ?_
 exact ih.i_Names_9__init__
 exact hrm
 rfl
 exact hx0
 exact au rfl
 refine aa ?_ ?_
 refine Am ?_ ?_ ?_ ?_ ?_ ?_
 rfl
 rfl
 exact hu
 exact sv ir
 exact Ab
 intro _ _; rfl
 refine aa ?_ ?_
 refine Am ?_ ?_ ?_ ?_ ?_ ?_
 rfl
 rfl
 exact hu
 exact sv ir
 exact Ab
 intro _ _; rfl
 refine aa ?_ ?_
 refine Am ?_ ?_ ?_ ?_ ?_ ?_
 rfl
 rfl
 exact hu
 exact sv ir
 exact Ab
 intro _ _; rfl
 refine aa ?_ ?_
 refine Am ?_ ?_ ?_ ?_ ?_ ?_
 rfl
 rfl
 exact hu
 exact sv ir
 exact Ab
 intro _ _; rfl
 refine aa ?_ ?_
 refine Am ?_ ?_ ?_ ?_ ?_ ?_
 rfl
 rfl
 exact hu
 exact sv ir
 exact Ab
 intro _ _; rfl
 exact Ac
 exact Af
 intro a
 refine Ad ?_ ?_
 refine ax (i := 3) ?_ ?_ ?_ ?_
 exact fw.nd
 rfl
 exact Or.inl Gz
 refine Ba ?_
 refine aa ?_ ?_
 refine gd ?_ T.o_NoNumber ?_ T.z_isinstance ?_ T.mc_NoNumber ?_
 rfl
 rfl
 rfl
 exact sv Fb
 refine aa ?_ ?_
 refine gd ?_ T.o_BadTerm ?_ T.z_isinstance ?_ T.mc_BadTerm ?_
 rfl
 rfl
 rfl
 exact sv Fb
 exact Ac
 refine Ad ?_ ?_
 refine ax (i := 3) ?_ ?_ ?_ ?_
 exact fw.nd
 rfl
 exact Or.inl Gz
 refine As ?_ ?_
 exact sv Gz
 refine Ba ?_
 refine aa ?_ ?_
 refine gd ?_ T.o_BadStatement ?_ T.z_isinstance ?_ T.mc_BadStatement ?_
 rfl
 rfl
 rfl
 exact sv Fb
 refine aa ?_ ?_
 refine gd ?_ T.o_NotTold ?_ T.z_isinstance ?_ T.mc_NotTold ?_
 rfl
 rfl
 rfl
 exact sv Fb
 exact Ac
 refine Ad ?_ ?_
 refine ax (i := 3) ?_ ?_ ?_ ?_
 exact fw.nd
 rfl
 exact Or.inl Gz
 refine As ?_ ?_
 exact sv Gz
 refine Ba ?_
 refine aa ?_ ?_
 refine gd ?_ T.o_NoText ?_ T.z_isinstance ?_ T.mc_NoText ?_
 rfl
 rfl
 rfl
 exact sv Fb
 refine aa ?_ ?_
 refine gd ?_ T.o_NoRow ?_ T.z_isinstance ?_ T.mc_NoRow ?_
 rfl
 rfl
 rfl
 exact sv Fb
 exact Ac
 refine Ad ?_ ?_
 refine ax (i := 1) ?_ ?_ ?_ ?_
 exact fw.nd
 rfl
 exact Or.inl Kv
 exact Ag
 refine Ad ?_ ?_
 refine Bz ?_ ?_ ?_
 refine PW.pt ?_
 refine Mh ?_ ?_
 refine Cz ?_ ?_ ?_ ?_
 rfl
 refine gd ?_ T.o_BadNames ?_ T.z_isinstance ?_ T.mc_BadNames ?_
 rfl
 rfl
 rfl
 exact sv Fb
 exact Gu
 intro _; rfl
 refine Mh ?_ ?_
 refine Cz ?_ ?_ ?_ ?_
 rfl
 refine Yk ?_ ?_ ?_ T.o_ValueError ?_ T.z_isinstance ?_ T.z_ValueError ?_ ?_
 rfl
 decide
 decide
 rfl
 rfl
 rfl
 exact sv Fb
 exact Gu
 intro _; rfl
 refine qh ?_
 refine Yf ?_ ?_ ?_ ?_ ?_
 rfl
 rfl
 exact hu
 exact fk
 exact sv Gz
 refine Ad ?_ ?_
 refine ax (i := 1) ?_ ?_ ?_ ?_
 exact fw.nd
 rfl
 exact Or.inl Kv
 exact Ag
 exact Af
 exact Af
 exact Af
 refine Ad ?_ ?_
 refine Bd ?_
 exact sv Kv
 exact Af
theorem aer : Fk Pr w K mg base ad fd cls FF (n + 1) 25 ["_law_cell", "_law_names_here"] 2 := by
 refine Bo (m := 2 * n + 1) (body' := km) T.f__law_lists Nq rfl fun cdv A outer s H E hrm => ?_
 have hr := hrm.mono (show 2 * n ≤ 2 * n + 1 by omega)
 have hu := hr.units
 subst hw
 refine Ad ?_ ?_
 refine Il (i := 2) (hNd := Nq.nd) (hix := by rfl) (hx := Sg) (cl := [(Str.ofString "_law_names_here", s.heap.objs.size + 2), (Str.ofString "_law_cell", s.heap.objs.size + 1)]) (N := ["_law_k", "_law_names_here", "_law_cell"]) (nl := 1) (fv := [1, 0]) (tgs := [0]) (one := true) (k := 2) ?_ ?_ ?_ ?_ ?_ ?_ ?_ ?_ ?_ ?_ ?_ ?_ ?_ ?_
 rfl
 rfl
 rfl
 decide
 decide
 rfl
 refine cj ?_ ?_
 exact ⟨rfl, rfl, trivial⟩
 rfl
 rfl
 refine Cj ?_
 exact ⟨⟨_, _, rfl, rfl, rfl, by first | exact Or.inl rfl | exact Or.inr rfl, by first | exact Or.inl rfl | exact Or.inr rfl⟩, ⟨_, _, rfl, rfl, rfl, by first | exact Or.inl rfl | exact Or.inr rfl, by first | exact Or.inl rfl | exact Or.inr rfl⟩, trivial⟩
 decide
 refine Qp ?_ T.z_range ?_
 rfl
 refine bb ?_ ?_
 refine Bk ?_ ?_
 refine ba 0 ?_
 exact pv 0 (hv := Or.inr (Or.inl Ir))
 exact Ab
 exact Ab
 intro L s0 H0 fp pn
 refine Ca ?_ ?_ ?_ ?_
 show List.Nodup (["_law_k", "_law_names_here", "_law_cell"] : List Str); decide
 rfl
 exact Or.inl rfl
 refine Or.inr ?_
 exact rfl
 intro L s0 H0 fp pn
 exact Ci
 intro L s0 H0 fp pn
 refine ah ?_
 refine aa ?_ ?_
 refine Am ?_ ?_ ?_ ?_ ?_ ?_
 rfl
 rfl
 exact hu
 refine ba 1 ?_
 exact pv 1
 refine As ?_ ?_
 exact Ab
 refine ba 0 ?_
 exact pv 0
 intro _ _; rfl
 refine aa ?_ ?_
 refine gr ?_ ?_
 exact Ab
 refine bb ?_ ?_
 refine Bk ?_ ?_
 refine ba 2 ?_
 exact pv 2
 exact Ab
 exact Ab
 refine aa ?_ ?_
 refine bb ?_ ?_
 refine Bk ?_ ?_
 refine ba 2 ?_
 exact pv 2
 exact Ab
 exact Ab
 exact Ac
 refine Ad ?_ ?_
 refine Il (i := 3) (hNd := Nq.nd) (hix := by rfl) (hx := sh) (cl := [(Str.ofString "_law_names_here", s.heap.objs.size + 2), (Str.ofString "_law_cell", s.heap.objs.size + 1)]) (N := ["_law_k", "_law_names_here", "_law_cell"]) (nl := 1) (fv := [1, 0]) (tgs := [0]) (one := true) (k := 2) ?_ ?_ ?_ ?_ ?_ ?_ ?_ ?_ ?_ ?_ ?_ ?_ ?_ ?_
 rfl
 rfl
 rfl
 decide
 decide
 rfl
 refine cj ?_ ?_
 exact ⟨rfl, rfl, trivial⟩
 rfl
 rfl
 refine Cj ?_
 exact ⟨⟨_, _, rfl, rfl, rfl, by first | exact Or.inl rfl | exact Or.inr rfl, by first | exact Or.inl rfl | exact Or.inr rfl⟩, ⟨_, _, rfl, rfl, rfl, by first | exact Or.inl rfl | exact Or.inr rfl, by first | exact Or.inl rfl | exact Or.inr rfl⟩, trivial⟩
 decide
 refine Qp ?_ T.z_range ?_
 rfl
 refine bb ?_ ?_
 refine Bk ?_ ?_
 refine ba 0 ?_
 exact pv 0 (hv := Or.inr (Or.inl Ir))
 exact Ab
 exact Ab
 intro L s0 H0 fp pn
 refine Ca ?_ ?_ ?_ ?_
 show List.Nodup (["_law_k", "_law_names_here", "_law_cell"] : List Str); decide
 rfl
 exact Or.inl rfl
 refine Or.inr ?_
 exact rfl
 intro L s0 H0 fp pn
 exact Ci
 intro L s0 H0 fp pn
 refine ah ?_
 refine aa ?_ ?_
 refine Am ?_ ?_ ?_ ?_ ?_ ?_
 rfl
 rfl
 exact hu
 refine ba 1 ?_
 exact pv 1
 refine As ?_ ?_
 exact Ab
 refine ba 0 ?_
 exact pv 0
 intro _ _; rfl
 refine aa ?_ ?_
 refine Mn ?_ ?_ ?_
 rfl
 refine ah ?_
 refine aa ?_ ?_
 exact Ag
 refine aa ?_ ?_
 exact Ag
 exact Ac
 refine As ?_ ?_
 exact Ab
 refine bb ?_ ?_
 refine ba 2 ?_
 exact pv 2
 exact Ab
 refine aa ?_ ?_
 exact Ag
 exact Ac
 refine Ad ?_ ?_
 refine Bd ?_
 refine Ba ?_
 refine aa ?_ ?_
 refine Mn ?_ ?_ ?_
 rfl
 refine ba 1 ?_
 exact pv 1 (hv := Or.inr (Or.inl nr))
 refine bb ?_ ?_
 refine ba 0 ?_
 exact pv 0 (hv := Or.inr (Or.inl Ir))
 exact Ab
 refine aa ?_ ?_
 exact sv Sg
 refine aa ?_ ?_
 refine qm ?_ ?_ ?_ ?_
 rfl
 refine ba 1 ?_
 exact pv 1 (hv := Or.inr (Or.inl nr))
 exact Ab
 refine As ?_ ?_
 exact Ab
 refine bb ?_ ?_
 refine Bk ?_ ?_
 refine ba 0 ?_
 exact pv 0 (hv := Or.inr (Or.inl Ir))
 exact Ab
 exact Ab
 refine aa ?_ ?_
 exact sv sh
 refine aa ?_ ?_
 refine qm ?_ ?_ ?_ ?_
 rfl
 refine ba 1 ?_
 exact pv 1 (hv := Or.inr (Or.inl nr))
 exact Ab
 refine As ?_ ?_
 exact Ab
 refine bb ?_ ?_
 refine Bk ?_ ?_
 refine ba 0 ?_
 exact pv 0 (hv := Or.inr (Or.inl Ir))
 exact Ab
 exact Ab
 exact Ac
 exact Af
theorem aes : Fk Pr w K mg base ad fd cls FF (n + 1) 26 ["_law_cell", "_law_names_here"] 2 := by
 refine Bo (m := 2 * n + 1) (body' := Km) T.f__law_no_name Sh rfl fun cdv A outer s H E hrm => ?_
 have hr := hrm.mono (show 2 * n ≤ 2 * n + 1 by omega)
 have hu := hr.units
 subst hw
 refine Ad ?_ ?_
 refine ax (i := 2) ?_ ?_ ?_ ?_
 exact Sh.nd
 rfl
 exact Or.inl si
 refine Ba ?_
 refine aa ?_ ?_
 exact Ag
 refine aa ?_ ?_
 refine Ga ?_ ?_ ?_
 rfl
 exact Ag
 exact Ab
 refine aa ?_ ?_
 exact Ag
 refine aa ?_ ?_
 exact Ag
 refine aa ?_ ?_
 exact Ag
 refine aa ?_ ?_
 exact Ag
 refine aa ?_ ?_
 exact Fz
 refine aa ?_ ?_
 exact Ab
 refine aa ?_ ?_
 refine ah ?_
 refine aa ?_ ?_
 exact Ag
 exact Ac
 refine aa ?_ ?_
 refine Ba ?_
 refine aa ?_ ?_
 exact Ag
 exact Ac
 refine aa ?_ ?_
 exact fk
 refine aa ?_ ?_
 exact Ag
 refine aa ?_ ?_
 exact Ag
 refine aa ?_ ?_
 exact Ag
 exact Ac
 refine Ad ?_ ?_
 refine Bd ?_
 refine Am ?_ ?_ ?_ ?_ ?_ ?_
 rfl
 rfl
 exact hu
 refine As ?_ ?_
 exact sv si
 refine Ba ?_
 refine aa ?_ ?_
 refine za ?_
 refine Am ?_ ?_ ?_ ?_ ?_ ?_
 rfl
 rfl
 exact hu
 exact sv adv
 exact Ab
 intro _ _; rfl
 refine aa ?_ ?_
 exact Ag
 exact Ac
 refine bb ?_ ?_
 exact sv adu
 exact Ab
 intro _ _; rfl
 exact Af
theorem aet : Fk Pr w K mg base ad fd cls FF (n + 1) 27 ["_law_cell", "_law_name", "_law_names_here"] 3 := by
 refine Bo (m := 2 * n + 1) (body' := Kn) T.f__law_no_stretch iu rfl fun cdv A outer s H E hrm => ?_
 have hr := hrm.mono (show 2 * n ≤ 2 * n + 1 by omega)
 have hu := hr.units
 subst hw
 refine Ad ?_ ?_
 refine ax (i := 3) ?_ ?_ ?_ ?_
 exact iu.nd
 rfl
 exact Or.inl fc
 refine bb ?_ ?_
 refine Bk ?_ ?_
 exact sv Nr
 exact Ab
 refine Jo ?_ ?_
 exact Ab
 exact Ab
 refine Ad ?_ ?_
 refine ax (i := 4) ?_ ?_ ?_ ?_
 exact iu.nd
 rfl
 exact Or.inl Ha
 refine Ba ?_
 refine aa ?_ ?_
 refine ah ?_
 refine aa ?_ ?_
 exact sv dy
 refine aa ?_ ?_
 exact sv fc
 refine aa ?_ ?_
 refine gr ?_ ?_
 exact sv fc
 exact Ab
 exact Ac
 refine aa ?_ ?_
 refine ah ?_
 refine aa ?_ ?_
 exact sv dy
 refine aa ?_ ?_
 exact sv fc
 refine aa ?_ ?_
 refine As ?_ ?_
 exact sv fc
 exact Ab
 exact Ac
 refine aa ?_ ?_
 refine ah ?_
 refine aa ?_ ?_
 exact sv dy
 refine aa ?_ ?_
 exact sv fc
 exact Ac
 exact Ac
 refine Ad ?_ ?_
 refine ax (i := 4) ?_ ?_ ?_ ?_
 exact iu.nd
 rfl
 exact Or.inl Ha
 refine As ?_ ?_
 exact sv Ha
 refine Ba ?_
 refine aa ?_ ?_
 refine ah ?_
 refine aa ?_ ?_
 exact sv dy
 refine aa ?_ ?_
 exact sv fc
 refine aa ?_ ?_
 exact sv fc
 refine aa ?_ ?_
 exact sv fc
 exact Ac
 refine aa ?_ ?_
 refine Ba ?_
 refine aa ?_ ?_
 exact sv dy
 refine aa ?_ ?_
 exact Ab
 refine aa ?_ ?_
 exact Ab
 exact Ac
 refine aa ?_ ?_
 exact sv dy
 refine aa ?_ ?_
 exact Fz
 exact Ac
 refine Ad ?_ ?_
 refine ax (i := 4) ?_ ?_ ?_ ?_
 exact iu.nd
 rfl
 exact Or.inl Ha
 refine As ?_ ?_
 exact sv Ha
 refine Ba ?_
 refine aa ?_ ?_
 refine ah ?_
 refine aa ?_ ?_
 exact sv dy
 refine aa ?_ ?_
 exact fk
 refine aa ?_ ?_
 exact Ab
 exact Ac
 refine aa ?_ ?_
 refine ah ?_
 refine aa ?_ ?_
 exact sv dy
 refine aa ?_ ?_
 exact Ab
 refine aa ?_ ?_
 exact Fz
 exact Ac
 refine aa ?_ ?_
 refine ah ?_
 refine aa ?_ ?_
 exact sv dy
 refine aa ?_ ?_
 exact Ag
 refine aa ?_ ?_
 exact Ab
 exact Ac
 refine aa ?_ ?_
 refine ah ?_
 refine aa ?_ ?_
 exact sv dy
 refine aa ?_ ?_
 refine ah ?_
 refine aa ?_ ?_
 exact Ab
 refine aa ?_ ?_
 exact Ab
 exact Ac
 refine aa ?_ ?_
 refine ah ?_
 refine aa ?_ ?_
 exact Ab
 refine aa ?_ ?_
 exact Ab
 exact Ac
 exact Ac
 refine aa ?_ ?_
 refine ah ?_
 refine aa ?_ ?_
 exact sv dy
 refine aa ?_ ?_
 exact Ab
 refine aa ?_ ?_
 exact fk
 exact Ac
 exact Ac
 refine Ad ?_ ?_
 refine Bd ?_
 refine Am ?_ ?_ ?_ ?_ ?_ ?_
 rfl
 rfl
 exact hu
 refine As ?_ ?_
 exact sv Ha
 refine Ba ?_
 refine aa ?_ ?_
 refine ah ?_
 refine aa ?_ ?_
 refine Av ih.i__law_no_name hr (by rfl) T.m__law_no_name T.f__law_no_name.kp T.b__law_no_name .nil aw az (au rfl) ?_
 refine aa ?_ ?_
 refine Bk ?_ ?_
 exact sv Nr
 exact Ab
 refine aa ?_ ?_
 exact sv adw
 exact Ac
 refine aa ?_ ?_
 exact Ab
 refine aa ?_ ?_
 exact Ab
 exact Ac
 exact Ac
 refine bb ?_ ?_
 exact sv Nr
 exact Ab
 intro _ _; rfl
 exact Af
theorem aeu : Fk Pr w K mg base ad fd cls FF (n + 1) 28 ["_law_cell", "_law_name", "_law_names_here"] 3 := by
 refine Bo (m := 2 * n + 1) (body' := ko) T.f__law_no_function gh rfl fun cdv A outer s H E hrm => ?_
 have hr := hrm.mono (show 2 * n ≤ 2 * n + 1 by omega)
 have hu := hr.units
 subst hw
 refine Ad ?_ ?_
 refine ax (i := 3) ?_ ?_ ?_ ?_
 exact gh.nd
 rfl
 exact Or.inl dq
 refine Ba ?_
 refine aa ?_ ?_
 refine ah ?_
 refine aa ?_ ?_
 exact sv Dd
 refine aa ?_ ?_
 refine ah ?_
 exact Ac
 refine aa ?_ ?_
 exact Ag
 exact Ac
 refine aa ?_ ?_
 refine ah ?_
 refine aa ?_ ?_
 exact sv Dd
 refine aa ?_ ?_
 refine Ga ?_ ?_ ?_
 rfl
 refine ah ?_
 refine aa ?_ ?_
 exact Ag
 exact Ac
 exact Ab
 refine aa ?_ ?_
 exact Ag
 exact Ac
 refine aa ?_ ?_
 refine ah ?_
 refine aa ?_ ?_
 exact sv Dd
 refine aa ?_ ?_
 refine Ba ?_
 refine aa ?_ ?_
 exact Ag
 exact Ac
 refine aa ?_ ?_
 exact Ag
 exact Ac
 exact Ac
 refine Ad ?_ ?_
 refine ax (i := 3) ?_ ?_ ?_ ?_
 exact gh.nd
 rfl
 exact Or.inl dq
 refine As ?_ ?_
 exact sv dq
 refine Ba ?_
 refine aa ?_ ?_
 refine ah ?_
 refine aa ?_ ?_
 exact sv Dd
 refine aa ?_ ?_
 refine ah ?_
 refine aa ?_ ?_
 exact Ag
 exact Ac
 refine aa ?_ ?_
 exact Ag
 exact Ac
 refine aa ?_ ?_
 refine ah ?_
 refine aa ?_ ?_
 exact sv Dd
 refine aa ?_ ?_
 exact Ag
 refine aa ?_ ?_
 exact Ag
 exact Ac
 exact Ac
 refine Ad ?_ ?_
 refine ax (i := 3) ?_ ?_ ?_ ?_
 exact gh.nd
 rfl
 exact Or.inl dq
 refine As ?_ ?_
 exact sv dq
 refine Ba ?_
 refine aa ?_ ?_
 refine ah ?_
 refine aa ?_ ?_
 exact sv Dd
 refine aa ?_ ?_
 refine ah ?_
 refine aa ?_ ?_
 exact Ag
 refine aa ?_ ?_
 exact Ag
 exact Ac
 refine aa ?_ ?_
 exact Ag
 exact Ac
 refine aa ?_ ?_
 refine ah ?_
 refine aa ?_ ?_
 exact sv Dd
 refine aa ?_ ?_
 refine ah ?_
 refine aa ?_ ?_
 exact Ag
 exact Ac
 exact Ac
 exact Ac
 refine Ad ?_ ?_
 refine ax (i := 3) ?_ ?_ ?_ ?_
 exact gh.nd
 rfl
 exact Or.inl dq
 refine As ?_ ?_
 exact sv dq
 refine Ba ?_
 refine aa ?_ ?_
 refine Ba ?_
 refine aa ?_ ?_
 exact sv Dd
 refine aa ?_ ?_
 refine ah ?_
 refine aa ?_ ?_
 exact Ag
 exact Ac
 refine aa ?_ ?_
 exact Ag
 exact Ac
 refine aa ?_ ?_
 exact sv Dd
 refine aa ?_ ?_
 refine ah ?_
 refine aa ?_ ?_
 exact sv Dd
 refine aa ?_ ?_
 refine ah ?_
 refine aa ?_ ?_
 exact Fz
 exact Ac
 refine aa ?_ ?_
 exact Ag
 exact Ac
 exact Ac
 refine Ad ?_ ?_
 refine ax (i := 3) ?_ ?_ ?_ ?_
 exact gh.nd
 rfl
 exact Or.inl dq
 refine As ?_ ?_
 exact sv dq
 refine Ba ?_
 refine aa ?_ ?_
 refine ah ?_
 refine aa ?_ ?_
 exact sv Dd
 refine aa ?_ ?_
 refine ah ?_
 refine aa ?_ ?_
 exact Ag
 exact Ac
 refine aa ?_ ?_
 exact Fz
 exact Ac
 refine aa ?_ ?_
 refine ah ?_
 refine aa ?_ ?_
 exact sv Dd
 refine aa ?_ ?_
 refine ah ?_
 refine aa ?_ ?_
 exact Ag
 exact Ac
 refine aa ?_ ?_
 exact Ag
 exact Ac
 exact Ac
 refine Ad ?_ ?_
 refine ax (i := 3) ?_ ?_ ?_ ?_
 exact gh.nd
 rfl
 exact Or.inl dq
 refine As ?_ ?_
 exact sv dq
 refine Ba ?_
 refine aa ?_ ?_
 refine ah ?_
 refine aa ?_ ?_
 exact sv Dd
 refine aa ?_ ?_
 refine ah ?_
 refine aa ?_ ?_
 exact Ag
 exact Ac
 refine aa ?_ ?_
 exact Ag
 exact Ac
 refine aa ?_ ?_
 refine ah ?_
 refine aa ?_ ?_
 exact sv Dd
 refine aa ?_ ?_
 exact Fz
 refine aa ?_ ?_
 exact Ag
 exact Ac
 exact Ac
 refine Ad ?_ ?_
 refine Bd ?_
 refine Am ?_ ?_ ?_ ?_ ?_ ?_
 rfl
 rfl
 exact hu
 refine As ?_ ?_
 exact sv dq
 refine Ba ?_
 refine aa ?_ ?_
 refine ah ?_
 refine aa ?_ ?_
 refine Av ih.i__law_no_name hr (by rfl) T.m__law_no_name T.f__law_no_name.kp T.b__law_no_name .nil aw az (au rfl) ?_
 refine aa ?_ ?_
 refine Bk ?_ ?_
 exact sv Si
 exact Ab
 refine aa ?_ ?_
 exact sv adx
 exact Ac
 refine aa ?_ ?_
 refine ah ?_
 refine aa ?_ ?_
 exact Ag
 exact Ac
 refine aa ?_ ?_
 exact Ag
 exact Ac
 exact Ac
 refine bb ?_ ?_
 exact sv Si
 exact Ab
 intro _ _; rfl
 exact Af
theorem aev : Fk Pr w K mg base ad fd cls FF (n + 1) 29 ["_law_lists_here", "_law_which", "_law_thing", "_law_cell"] 4 := by
 refine Bo (m := 2 * n + 1) (body' := Ko) T.f__law_put nt rfl fun cdv A outer s H E hrm => ?_
 have hr := hrm.mono (show 2 * n ≤ 2 * n + 1 by omega)
 have hu := hr.units
 subst hw
 refine Ad ?_ ?_
 refine ax (i := 4) ?_ ?_ ?_ ?_
 exact nt.nd
 rfl
 exact Or.inl Nt
 refine bb ?_ ?_
 exact sv adz
 refine As ?_ ?_
 refine Gb ?_ ?_ T.z_len ?_
 rfl
 rfl
 refine aa ?_ ?_
 refine Am ?_ ?_ ?_ ?_ ?_ ?_
 rfl
 rfl
 exact hu
 exact sv sj
 exact sv Kw
 intro _ _; rfl
 exact Ac
 exact Ab
 refine Ad ?_ ?_
 refine Il (i := 5) (hNd := nt.nd) (hix := by rfl) (hx := Iu) (cl := []) (N := ["_law_one"]) (nl := 1) (fv := []) (tgs := [0]) (one := true) (k := 0) ?_ ?_ ?_ ?_ ?_ ?_ ?_ ?_ ?_ ?_ ?_ ?_ ?_ ?_
 rfl
 rfl
 rfl
 decide
 decide
 rfl
 refine cj ?_ ?_
 exact trivial
 rfl
 rfl
 refine Cj ?_
 exact trivial
 decide
 refine di ?_ ?_
 rfl
 exact sv sj
 intro L s0 H0 fp pn
 refine Ca ?_ ?_ ?_ ?_
 show List.Nodup (["_law_one"] : List Str); decide
 rfl
 exact Or.inl rfl
 refine Or.inr ?_
 exact rfl
 intro L s0 H0 fp pn
 exact Ci
 intro L s0 H0 fp pn
 refine fo ?_ ?_ T.z_list ?_
 rfl
 rfl
 refine aa ?_ ?_
 refine ba 0 ?_
 exact pv 0
 exact Ac
 refine Ad ?_ ?_
 refine jw ?_ ?_ ?_ ?_ ?_ ?_
 rfl
 rfl
 exact hu
 exact sv Iu
 exact sv Kw
 refine As ?_ ?_
 refine As ?_ ?_
 refine Mn ?_ ?_ ?_
 rfl
 refine Am ?_ ?_ ?_ ?_ ?_ ?_
 rfl
 rfl
 exact hu
 exact sv Iu
 exact sv Kw
 intro _ _; rfl
 exact sv Nt
 refine Ba ?_
 refine aa ?_ ?_
 exact sv ady
 exact Ac
 refine yt ?_ ?_ ?_
 rfl
 refine Am ?_ ?_ ?_ ?_ ?_ ?_
 rfl
 rfl
 exact hu
 exact sv Iu
 exact sv Kw
 intro _ _; rfl
 exact sv Nt
 refine Ad ?_ ?_
 refine Bd ?_
 exact sv Iu
 exact Af
theorem aew : Fk Pr w K mg base ad fd cls FF (n + 1) 30 ["_law_lists_here", "_law_names_here", "_law_rest"] 3 := by
 refine Bo (m := 2 * n + 1) (body' := Kp) T.f__law_many_values nu rfl fun cdv A outer s H E hrm => ?_
 have hr := hrm.mono (show 2 * n ≤ 2 * n + 1 by omega)
 have hu := hr.units
 subst hw
 refine Ad ?_ ?_
 refine Il (i := 3) (hNd := nu.nd) (hix := by rfl) (hx := Kx) (cl := []) (N := ["_law_one"]) (nl := 1) (fv := []) (tgs := [0]) (one := true) (k := 0) ?_ ?_ ?_ ?_ ?_ ?_ ?_ ?_ ?_ ?_ ?_ ?_ ?_ ?_
 rfl
 rfl
 rfl
 decide
 decide
 rfl
 refine cj ?_ ?_
 exact trivial
 rfl
 rfl
 refine Cj ?_
 exact trivial
 decide
 refine di ?_ ?_
 rfl
 exact sv aea
 intro L s0 H0 fp pn
 refine Ca ?_ ?_ ?_ ?_
 show List.Nodup (["_law_one"] : List Str); decide
 rfl
 exact Or.inl rfl
 refine Or.inr ?_
 exact rfl
 intro L s0 H0 fp pn
 exact Ci
 intro L s0 H0 fp pn
 refine fo ?_ ?_ T.z_list ?_
 rfl
 rfl
 refine aa ?_ ?_
 refine ba 0 ?_
 exact pv 0
 exact Ac
 refine Ad ?_ ?_
 refine ax (i := 4) ?_ ?_ ?_ ?_
 exact nu.nd
 rfl
 exact Or.inl Iw
 refine gr ?_ ?_
 exact Ab
 refine bb ?_ ?_
 refine Bk ?_ ?_
 exact sv iw
 exact Ab
 refine Jo ?_ ?_
 exact Ab
 exact Ab
 refine Ad ?_ ?_
 refine jw ?_ ?_ ?_ ?_ ?_ ?_
 rfl
 rfl
 exact hu
 exact sv Kx
 exact Ab
 refine Ba ?_
 refine aa ?_ ?_
 refine ah ?_
 refine aa ?_ ?_
 refine Am ?_ ?_ ?_ ?_ ?_ ?_
 rfl
 rfl
 exact hu
 exact sv Iv
 exact Ab
 intro _ _; rfl
 refine aa ?_ ?_
 exact sv Iw
 refine aa ?_ ?_
 refine As ?_ ?_
 exact sv Iw
 exact Ab
 exact Ac
 refine aa ?_ ?_
 refine ah ?_
 refine aa ?_ ?_
 refine Am ?_ ?_ ?_ ?_ ?_ ?_
 rfl
 rfl
 exact hu
 exact sv Iv
 exact Ab
 intro _ _; rfl
 refine aa ?_ ?_
 exact Ab
 refine aa ?_ ?_
 refine Am ?_ ?_ ?_ ?_ ?_ ?_
 rfl
 rfl
 exact hu
 refine Ba ?_
 refine aa ?_ ?_
 exact Ab
 refine aa ?_ ?_
 exact Ab
 exact Ac
 refine bb ?_ ?_
 exact sv iw
 exact Ab
 intro _ _; rfl
 exact Ac
 exact Ac
 refine Ad ?_ ?_
 refine Bz ?_ ?_ ?_
 refine Fm ?_ ?_ ?_ ?_
 rfl
 exact hu
 refine bb ?_ ?_
 refine Bk ?_ ?_
 exact sv iw
 exact Ab
 exact Ab
 exact Ab
 refine Ad ?_ ?_
 refine jw ?_ ?_ ?_ ?_ ?_ ?_
 rfl
 rfl
 exact hu
 exact sv Kx
 exact Ab
 refine Ba ?_
 refine aa ?_ ?_
 refine ah ?_
 refine aa ?_ ?_
 refine Am ?_ ?_ ?_ ?_ ?_ ?_
 rfl
 rfl
 exact hu
 exact sv Iv
 exact Ab
 intro _ _; rfl
 refine aa ?_ ?_
 exact sv Iw
 refine aa ?_ ?_
 refine As ?_ ?_
 exact sv Iw
 exact Ab
 exact Ac
 refine aa ?_ ?_
 refine ah ?_
 refine aa ?_ ?_
 refine Am ?_ ?_ ?_ ?_ ?_ ?_
 rfl
 rfl
 exact hu
 exact sv Iv
 exact Ab
 intro _ _; rfl
 refine aa ?_ ?_
 exact Ab
 refine aa ?_ ?_
 exact Ab
 exact Ac
 refine aa ?_ ?_
 refine ah ?_
 refine aa ?_ ?_
 refine Am ?_ ?_ ?_ ?_ ?_ ?_
 rfl
 rfl
 exact hu
 exact sv Iv
 exact Ab
 intro _ _; rfl
 refine aa ?_ ?_
 exact Ab
 refine aa ?_ ?_
 refine Am ?_ ?_ ?_ ?_ ?_ ?_
 rfl
 rfl
 exact hu
 refine Ba ?_
 refine aa ?_ ?_
 exact Ab
 refine aa ?_ ?_
 exact Ab
 exact Ac
 refine bb ?_ ?_
 exact sv iw
 exact Ab
 intro _ _; rfl
 exact Ac
 exact Ac
 exact Af
 exact Af
 refine Ad ?_ ?_
 refine Bd ?_
 refine ah ?_
 refine aa ?_ ?_
 exact sv Kx
 refine aa ?_ ?_
 refine Am ?_ ?_ ?_ ?_ ?_ ?_
 rfl
 rfl
 exact hu
 refine Ba ?_
 refine aa ?_ ?_
 exact Ag
 refine aa ?_ ?_
 exact Ag
 exact Ac
 refine bb ?_ ?_
 exact sv iw
 exact Ab
 intro _ _; rfl
 exact Ac
 exact Af
theorem aex : Fk Pr w K mg base ad fd cls FF (n + 1) 31 ["_law_lists_here", "_law_names_here", "_law_cell"] 3 := by
 refine Bo (m := 2 * n + 1) (body' := Bm) T.f__law_case Dl rfl fun cdv A outer s H E hrm => ?_
 have hr := hrm.mono (show 2 * n ≤ 2 * n + 1 by omega)
 have hu := hr.units
 subst hw
 refine Ad ?_ ?_
 refine ax (i := 3) ?_ ?_ ?_ ?_
 exact Dl.nd
 rfl
 exact Or.inl Hb
 refine bb ?_ ?_
 exact sv Sj
 exact Ab
 refine Ad ?_ ?_
 refine ax (i := 4) ?_ ?_ ?_ ?_
 exact Dl.nd
 rfl
 exact Or.inl Bw
 refine Bk ?_ ?_
 exact sv Sj
 exact Ab
 refine Ad ?_ ?_
 refine ax (i := 5) ?_ ?_ ?_ ?_
 exact Dl.nd
 rfl
 exact Or.inl iy
 refine bb ?_ ?_
 exact sv Bw
 exact Ab
 refine Ad ?_ ?_
 refine Bz ?_ ?_ ?_
 refine Fm ?_ ?_ ?_ ?_
 rfl
 exact hu
 exact sv Hb
 exact Ab
 refine Ad ?_ ?_
 refine Il (i := 6) (hNd := Dl.nd) (hix := by rfl) (hx := Nu) (cl := []) (N := ["_law_one"]) (nl := 1) (fv := []) (tgs := [0]) (one := true) (k := 0) ?_ ?_ ?_ ?_ ?_ ?_ ?_ ?_ ?_ ?_ ?_ ?_ ?_ ?_
 rfl
 rfl
 rfl
 decide
 decide
 rfl
 refine cj ?_ ?_
 exact trivial
 rfl
 rfl
 refine Cj ?_
 exact trivial
 decide
 refine di ?_ ?_
 rfl
 exact sv de
 intro L s0 H0 fp pn
 refine Ca ?_ ?_ ?_ ?_
 show List.Nodup (["_law_one"] : List Str); decide
 rfl
 exact Or.inl rfl
 refine Or.inr ?_
 exact rfl
 intro L s0 H0 fp pn
 exact Ci
 intro L s0 H0 fp pn
 refine fo ?_ ?_ T.z_list ?_
 rfl
 rfl
 refine aa ?_ ?_
 refine ba 0 ?_
 exact pv 0
 exact Ac
 refine Ad ?_ ?_
 refine jw ?_ ?_ ?_ ?_ ?_ ?_
 rfl
 rfl
 exact hu
 exact sv Nu
 exact sv iy
 refine Am ?_ ?_ ?_ ?_ ?_ ?_
 rfl
 rfl
 exact hu
 refine Ba ?_
 refine aa ?_ ?_
 refine Yi ?_ ?_ T.z_tuple ?_
 rfl
 rfl
 refine aa ?_ ?_
 refine Am ?_ ?_ ?_ ?_ ?_ ?_
 rfl
 rfl
 exact hu
 exact sv de
 exact sv iy
 intro _ _; rfl
 exact Ac
 refine aa ?_ ?_
 exact Fz
 refine aa ?_ ?_
 exact yl
 refine aa ?_ ?_
 exact Ag
 refine aa ?_ ?_
 exact Ab
 exact Ac
 refine bb ?_ ?_
 refine Bk ?_ ?_
 exact sv Bw
 exact Ab
 exact Ab
 intro _ _; rfl
 refine Ad ?_ ?_
 refine Bd ?_
 refine ah ?_
 refine aa ?_ ?_
 exact sv Nu
 refine aa ?_ ?_
 exact Ag
 exact Ac
 exact Af
 exact Af
 refine Ad ?_ ?_
 refine Bz ?_ ?_ ?_
 refine Fm ?_ ?_ ?_ ?_
 rfl
 exact hu
 exact sv Hb
 exact Ab
 refine Ad ?_ ?_
 refine Bd ?_
 refine ah ?_
 refine aa ?_ ?_
 refine Av ih.i__law_put hr (by rfl) T.m__law_put T.f__law_put.kp T.b__law_put .nil aw az (au rfl) ?_
 refine aa ?_ ?_
 exact sv de
 refine aa ?_ ?_
 refine Am ?_ ?_ ?_ ?_ ?_ ?_
 rfl
 rfl
 exact hu
 refine Ba ?_
 refine aa ?_ ?_
 exact Ab
 refine aa ?_ ?_
 exact Ab
 refine aa ?_ ?_
 exact Ab
 exact Ac
 refine bb ?_ ?_
 exact sv Bw
 exact Ab
 intro _ _; rfl
 refine aa ?_ ?_
 refine Av ih.i__law_no_name hr (by rfl) T.m__law_no_name T.f__law_no_name.kp T.b__law_no_name .nil aw az (au rfl) ?_
 refine aa ?_ ?_
 refine Bk ?_ ?_
 exact sv Bw
 exact Ab
 refine aa ?_ ?_
 exact sv Em
 exact Ac
 refine aa ?_ ?_
 refine Bk ?_ ?_
 exact sv Bw
 exact Ab
 exact Ac
 refine aa ?_ ?_
 exact Ag
 exact Ac
 exact Af
 exact Af
 refine Ad ?_ ?_
 refine Bz ?_ ?_ ?_
 refine Fm ?_ ?_ ?_ ?_
 rfl
 exact hu
 exact sv Hb
 exact Ab
 refine Ad ?_ ?_
 refine Bd ?_
 refine ah ?_
 refine aa ?_ ?_
 refine Av ih.i__law_put hr (by rfl) T.m__law_put T.f__law_put.kp T.b__law_put .nil aw az (au rfl) ?_
 refine aa ?_ ?_
 exact sv de
 refine aa ?_ ?_
 exact Ab
 refine aa ?_ ?_
 refine Av ih.i__law_no_stretch hr (by rfl) T.m__law_no_stretch T.f__law_no_stretch.kp T.b__law_no_stretch .nil aw az (au rfl) ?_
 refine aa ?_ ?_
 exact sv Bw
 refine aa ?_ ?_
 refine Am ?_ ?_ ?_ ?_ ?_ ?_
 rfl
 rfl
 exact hu
 exact sv Em
 exact Ab
 intro _ _; rfl
 refine aa ?_ ?_
 exact sv Em
 exact Ac
 refine aa ?_ ?_
 refine Bk ?_ ?_
 exact sv Bw
 exact Ab
 exact Ac
 refine aa ?_ ?_
 exact Ag
 exact Ac
 exact Af
 exact Af
 refine Ad ?_ ?_
 refine Bz ?_ ?_ ?_
 refine Fm ?_ ?_ ?_ ?_
 rfl
 exact hu
 exact sv Hb
 exact Ab
 refine Ad ?_ ?_
 refine Bd ?_
 refine ah ?_
 refine aa ?_ ?_
 refine Av ih.i__law_put hr (by rfl) T.m__law_put T.f__law_put.kp T.b__law_put .nil aw az (au rfl) ?_
 refine aa ?_ ?_
 exact sv de
 refine aa ?_ ?_
 exact Ab
 refine aa ?_ ?_
 refine Av ih.i__law_no_function hr (by rfl) T.m__law_no_function T.f__law_no_function.kp T.b__law_no_function .nil aw az (au rfl) ?_
 refine aa ?_ ?_
 exact sv Bw
 refine aa ?_ ?_
 refine Am ?_ ?_ ?_ ?_ ?_ ?_
 rfl
 rfl
 exact hu
 exact sv Em
 exact Ab
 intro _ _; rfl
 refine aa ?_ ?_
 exact sv Em
 exact Ac
 refine aa ?_ ?_
 refine Bk ?_ ?_
 exact sv Bw
 exact Ab
 exact Ac
 refine aa ?_ ?_
 exact Ag
 exact Ac
 exact Af
 exact Af
 refine Ad ?_ ?_
 refine Bz ?_ ?_ ?_
 refine Fm ?_ ?_ ?_ ?_
 rfl
 exact hu
 exact sv Hb
 exact Ab
 refine Ad ?_ ?_
 refine ax (i := 7) ?_ ?_ ?_ ?_
 exact Dl.nd
 rfl
 exact Or.inl Nv
 refine As ?_ ?_
 refine As ?_ ?_
 refine As ?_ ?_
 refine As ?_ ?_
 refine Am ?_ ?_ ?_ ?_ ?_ ?_
 rfl
 rfl
 exact hu
 exact sv de
 exact Ab
 intro _ _; rfl
 refine Am ?_ ?_ ?_ ?_ ?_ ?_
 rfl
 rfl
 exact hu
 exact sv de
 exact Ab
 intro _ _; rfl
 refine Am ?_ ?_ ?_ ?_ ?_ ?_
 rfl
 rfl
 exact hu
 exact sv de
 exact Ab
 intro _ _; rfl
 refine Gd (cl := []) (N := ["_law_one"]) (nl := 1) (fv := []) (tgs := [0]) (one := true) (k := 0) ?_ ?_ ?_ ?_ ?_ ?_ ?_ ?_ ?_ ?_ ?_ ?_ ?_ ?_
 rfl
 rfl
 rfl
 decide
 decide
 rfl
 refine cj ?_ ?_
 exact trivial
 rfl
 rfl
 refine Cj ?_
 exact trivial
 decide
 refine di ?_ ?_
 rfl
 refine As ?_ ?_
 refine Am ?_ ?_ ?_ ?_ ?_ ?_
 rfl
 rfl
 exact hu
 exact sv de
 exact Ab
 intro _ _; rfl
 refine Am ?_ ?_ ?_ ?_ ?_ ?_
 rfl
 rfl
 exact hu
 exact sv de
 exact Ab
 intro _ _; rfl
 intro L s0 H0 fp pn
 refine Ca ?_ ?_ ?_ ?_
 show List.Nodup (["_law_one"] : List Str); decide
 rfl
 exact Or.inl rfl
 refine Or.inr ?_
 exact rfl
 intro L s0 H0 fp pn
 exact Ci
 intro L s0 H0 fp pn
 refine Am ?_ ?_ ?_ ?_ ?_ ?_
 rfl
 rfl
 exact hu
 refine ba 0 ?_
 exact pv 0
 exact Ab
 intro _ _; rfl
 refine Ba ?_
 refine aa ?_ ?_
 refine Am ?_ ?_ ?_ ?_ ?_ ?_
 rfl
 rfl
 exact hu
 exact sv Em
 exact Ab
 intro _ _; rfl
 exact Ac
 refine Ad ?_ ?_
 refine ax (i := 8) ?_ ?_ ?_ ?_
 exact Dl.nd
 rfl
 exact Or.inl Gh
 refine Am ?_ ?_ ?_ ?_ ?_ ?_
 rfl
 rfl
 exact hu
 exact sv Nv
 refine bb ?_ ?_
 refine Bk ?_ ?_
 exact sv Bw
 exact Ab
 refine Gb ?_ ?_ T.z_len ?_
 rfl
 rfl
 refine aa ?_ ?_
 exact sv Nv
 exact Ac
 intro _ _; rfl
 refine Ad ?_ ?_
 refine ax (i := 9) ?_ ?_ ?_ ?_
 exact Dl.nd
 rfl
 exact Or.inl ky
 refine Av ih.i__law_put hr (by rfl) T.m__law_put T.f__law_put.kp T.b__law_put .nil aw az (au rfl) ?_
 refine aa ?_ ?_
 exact sv de
 refine aa ?_ ?_
 exact sv iy
 refine aa ?_ ?_
 refine Am ?_ ?_ ?_ ?_ ?_ ?_
 rfl
 rfl
 exact hu
 refine Ba ?_
 refine aa ?_ ?_
 exact sv Gh
 refine aa ?_ ?_
 refine ah ?_
 refine aa ?_ ?_
 exact sv Gh
 refine aa ?_ ?_
 exact Ab
 refine aa ?_ ?_
 exact Ab
 exact Ac
 refine aa ?_ ?_
 exact sv Gh
 refine aa ?_ ?_
 refine ah ?_
 refine aa ?_ ?_
 exact sv Gh
 refine aa ?_ ?_
 refine ah ?_
 refine aa ?_ ?_
 exact Ag
 exact Ac
 refine aa ?_ ?_
 exact Ag
 exact Ac
 refine aa ?_ ?_
 exact sv Gh
 exact Ac
 exact sv iy
 intro _ _; rfl
 refine aa ?_ ?_
 refine Bk ?_ ?_
 exact sv Bw
 exact Ab
 exact Ac
 refine Ad ?_ ?_
 refine ax (i := 9) ?_ ?_ ?_ ?_
 exact Dl.nd
 rfl
 exact Or.inl ky
 refine Av ih.i__law_put hr (by rfl) T.m__law_put T.f__law_put.kp T.b__law_put .nil aw az (au rfl) ?_
 refine aa ?_ ?_
 exact sv ky
 refine aa ?_ ?_
 refine Am ?_ ?_ ?_ ?_ ?_ ?_
 rfl
 rfl
 exact hu
 refine Ba ?_
 refine aa ?_ ?_
 exact Ab
 refine aa ?_ ?_
 exact Ab
 refine aa ?_ ?_
 exact Ab
 exact Ac
 refine bb ?_ ?_
 refine Bk ?_ ?_
 exact sv Bw
 exact Ab
 exact Ab
 intro _ _; rfl
 refine aa ?_ ?_
 exact sv Gh
 refine aa ?_ ?_
 refine Bk ?_ ?_
 exact sv Bw
 exact Ab
 exact Ac
 refine Ad ?_ ?_
 refine Bd ?_
 refine ah ?_
 refine aa ?_ ?_
 exact sv ky
 refine aa ?_ ?_
 exact Ag
 exact Ac
 exact Af
 exact Af
 refine Ad ?_ ?_
 refine Bz ?_ ?_ ?_
 refine Fm ?_ ?_ ?_ ?_
 rfl
 exact hu
 refine bb ?_ ?_
 exact sv Bw
 exact Ab
 exact Ab
 refine Ad ?_ ?_
 refine Bd ?_
 refine Av ih.i__law_many_values hr (by rfl) T.m__law_many_values T.f__law_many_values.kp T.b__law_many_values .nil aw az (au rfl) ?_
 refine aa ?_ ?_
 exact sv de
 refine aa ?_ ?_
 exact sv Em
 refine aa ?_ ?_
 refine Bk ?_ ?_
 exact sv Bw
 exact Ab
 exact Ac
 exact Af
 exact Af
 refine Ad ?_ ?_
 refine ax (i := 10) ?_ ?_ ?_ ?_
 exact Dl.nd
 rfl
 exact Or.inl Ky
 refine Ba ?_
 refine aa ?_ ?_
 refine ah ?_
 refine aa ?_ ?_
 refine Ga ?_ ?_ ?_
 rfl
 exact Ag
 exact Ab
 refine aa ?_ ?_
 exact Ab
 exact Ac
 refine aa ?_ ?_
 refine ah ?_
 refine aa ?_ ?_
 refine ah ?_
 refine aa ?_ ?_
 refine Am ?_ ?_ ?_ ?_ ?_ ?_
 rfl
 rfl
 exact hu
 exact sv Em
 exact Ab
 intro _ _; rfl
 refine aa ?_ ?_
 refine gr ?_ ?_
 exact Ab
 refine bb ?_ ?_
 exact sv Bw
 refine Jo ?_ ?_
 exact Ab
 exact Ab
 refine aa ?_ ?_
 refine gr ?_ ?_
 exact Ab
 refine bb ?_ ?_
 exact sv Bw
 refine Jo ?_ ?_
 exact Ab
 exact Ab
 exact Ac
 refine aa ?_ ?_
 exact Ab
 exact Ac
 exact Ac
 refine Ad ?_ ?_
 refine ax (i := 10) ?_ ?_ ?_ ?_
 exact Dl.nd
 rfl
 exact Or.inl Ky
 refine As ?_ ?_
 exact sv Ky
 refine Ba ?_
 refine aa ?_ ?_
 refine ah ?_
 refine aa ?_ ?_
 refine ah ?_
 refine aa ?_ ?_
 refine Am ?_ ?_ ?_ ?_ ?_ ?_
 rfl
 rfl
 exact hu
 exact sv Em
 exact Ab
 intro _ _; rfl
 refine aa ?_ ?_
 refine Ga ?_ ?_ ?_
 rfl
 refine ah ?_
 refine aa ?_ ?_
 exact Ag
 exact Ac
 exact Ab
 refine aa ?_ ?_
 exact Ag
 exact Ac
 refine aa ?_ ?_
 exact Ab
 exact Ac
 exact Ac
 refine Ad ?_ ?_
 refine qj (is := [11, 12]) ?_ ?_
 refine Am ?_ ?_ ?_ ?_ ?_ ?_
 rfl
 rfl
 exact hu
 exact sv Ky
 refine bb ?_ ?_
 exact sv Bw
 exact Ab
 intro _ _; rfl
 refine Hq ?_ ?_
 rfl
 refine dg ?_ ?_
 refine cy (i := 11) ?_ ?_ ?_
 exact Dl.nd
 rfl
 exact Or.inl sk
 refine dg ?_ ?_
 refine cy (i := 12) ?_ ?_ ?_
 exact Dl.nd
 rfl
 exact Or.inl Sk
 exact Ho
 refine Ad ?_ ?_
 refine Bz ?_ ?_ ?_
 refine PW.pt ?_
 refine Mh ?_ ?_
 refine Fm ?_ ?_ ?_ ?_
 rfl
 exact hu
 refine bb ?_ ?_
 exact sv Bw
 exact Ab
 exact Ab
 refine qh ?_
 refine yg ?_ ?_ ?_ ?_ ?_
 rfl
 rfl
 exact hu
 refine Ga ?_ ?_ ?_
 rfl
 exact Ag
 exact Ab
 exact sv Em
 refine Ad ?_ ?_
 refine Bd ?_
 refine ah ?_
 refine aa ?_ ?_
 exact sv de
 refine aa ?_ ?_
 exact Ag
 exact Ac
 exact Af
 exact Af
 refine Ad ?_ ?_
 refine Bd ?_
 refine ah ?_
 refine aa ?_ ?_
 refine Av ih.i__law_put hr (by rfl) T.m__law_put T.f__law_put.kp T.b__law_put .nil aw az (au rfl) ?_
 refine aa ?_ ?_
 exact sv de
 refine aa ?_ ?_
 exact sv Sk
 refine aa ?_ ?_
 exact sv sk
 refine aa ?_ ?_
 refine Bk ?_ ?_
 exact sv Bw
 exact Ab
 exact Ac
 refine aa ?_ ?_
 exact Ag
 exact Ac
 exact Af
theorem aey : Fk Pr w K mg base ad fd cls FF (n + 1) 32 ["_law_script"] 1 := by
 refine Bo (m := 2 * n + 1) (body' := kq) T.f_law Hc rfl fun cdv A outer s H E hrm => ?_
 have hr := hrm.mono (show 2 * n ≤ 2 * n + 1 by omega)
 have hu := hr.units
 subst hw
 refine Ad ?_ ?_
 refine ax (i := 1) ?_ ?_ ?_ ?_
 exact Hc.nd
 rfl
 exact Or.inl Kz
 refine Av ih.i__law_names hr (by rfl) T.m__law_names T.f__law_names.kp T.b__law_names .nil aw az (au rfl) ?_
 refine aa ?_ ?_
 refine Av ih.i__law_cell_at hr (by rfl) T.m__law_cell_at T.f__law_cell_at.kp T.b__law_cell_at .nil aw az (au rfl) ?_
 refine aa ?_ ?_
 exact sv kz
 refine aa ?_ ?_
 exact Ab
 exact Ac
 refine aa ?_ ?_
 exact Ab
 exact Ac
 refine Ad ?_ ?_
 refine ax (i := 2) ?_ ?_ ?_ ?_
 exact Hc.nd
 rfl
 exact Or.inl La
 refine Av ih.i__law_lists hr (by rfl) T.m__law_lists T.f__law_lists.kp T.b__law_lists .nil aw az (au rfl) ?_
 refine aa ?_ ?_
 refine Av ih.i__law_cell_at hr (by rfl) T.m__law_cell_at T.f__law_cell_at.kp T.b__law_cell_at .nil aw az (au rfl) ?_
 refine aa ?_ ?_
 exact sv kz
 refine aa ?_ ?_
 exact Ab
 exact Ac
 refine aa ?_ ?_
 exact sv Kz
 exact Ac
 refine Ad ?_ ?_
 refine Ml (is := [3]) ?_ ?_ ?_ T.z_range ?_ ?_ ?_
 exact PassesOwn.leaving
 rfl
 rfl
 exact Ab
 refine Ca ?_ ?_ ?_
 exact Hc.nd
 rfl
 exact Or.inl Sl
 refine Ad ?_ ?_
 refine qj (is := [4, 5]) ?_ ?_
 refine Av ih.i__law_case hr (by rfl) T.m__law_case T.f__law_case.kp T.b__law_case .nil aw az (au rfl) ?_
 refine aa ?_ ?_
 exact sv La
 refine aa ?_ ?_
 exact sv Kz
 refine aa ?_ ?_
 refine Av ih.i__law_cell_at hr (by rfl) T.m__law_cell_at T.f__law_cell_at.kp T.b__law_cell_at .nil aw az (au rfl) ?_
 refine aa ?_ ?_
 exact sv kz
 refine aa ?_ ?_
 refine As ?_ ?_
 exact Ab
 exact sv Sl
 exact Ac
 exact Ac
 refine Hq ?_ ?_
 rfl
 refine dg ?_ ?_
 refine cy (i := 4) ?_ ?_ ?_
 exact Hc.nd
 rfl
 exact Or.inl sm
 refine dg ?_ ?_
 refine cy (i := 5) ?_ ?_ ?_
 exact Hc.nd
 rfl
 exact Or.inl Sm
 exact Ho
 refine Ad ?_ ?_
 refine Bz ?_ ?_ ?_
 refine PW.pt ?_
 refine Fo ?_ ?_
 refine Mg ?_ ?_ ?_ ?_
 rfl
 exact hu
 refine Av ih.i__law_said hr (by rfl) T.m__law_said T.f__law_said.kp T.b__law_said .nil aw az (au rfl) ?_
 refine aa ?_ ?_
 exact sv sm
 exact Ac
 exact sv Sm
 refine Gs ?_
 refine Mg ?_ ?_ ?_ ?_
 rfl
 exact hu
 refine Av ih.i__law_said hr (by rfl) T.m__law_said T.f__law_said.kp T.b__law_said .nil aw az (au rfl) ?_
 refine aa ?_ ?_
 exact sv La
 exact Ac
 exact Ag
 refine Ad ?_ ?_
 refine Bd ?_
 exact fk
 exact Af
 exact Af
 exact Af
 refine Ad ?_ ?_
 refine Bd ?_
 refine Mf ?_ ?_ ?_ ?_
 rfl
 exact hu
 exact sv La
 refine Av ih.i__law_lists hr (by rfl) T.m__law_lists T.f__law_lists.kp T.b__law_lists .nil aw az (au rfl) ?_
 refine aa ?_ ?_
 refine Av ih.i__law_cell_at hr (by rfl) T.m__law_cell_at T.f__law_cell_at.kp T.b__law_cell_at .nil aw az (au rfl) ?_
 refine aa ?_ ?_
 exact sv kz
 refine aa ?_ ?_
 exact Ab
 exact Ac
 refine aa ?_ ?_
 exact sv Kz
 exact Ac
 exact Af
end
theorem Sn (hw : cls.w = w) (T : Txt K mg ad fd cls) : ∀ n, IH Pr w K mg base ad fd cls FF n
 | 0 => ⟨bp, bp, bp, bp, bp, bp, bp, bp, bp, bp, bp, bp, bp, bp, bp, bp, bp, bp, bp, bp, bp, bp, bp, bp⟩
 | n + 1 => by
  have ih := Sn hw T n
  exact ⟨aeb hw T ih, aec hw T ih, aed hw T ih, aee hw T ih, aef hw T ih, aeg hw T ih, aeh hw T ih, aei hw T ih, aej hw T ih, aek hw T ih, ael hw T ih, aem hw T ih, aen hw T ih, aeo hw T ih, aep hw T ih, aeq hw T ih, aer hw T ih, aes hw T ih, aet hw T ih, aeu hw T ih, aev hw T ih, aew hw T ih, aex hw T ih, aey hw T ih⟩
end
abbrev so (l : List Addr) : Nat → Addr := fun i => l.getD i 0
instance : Inhabited FuncData := ⟨PySem.W.fnOf "" "" (aj (.Pass ⟨0, 0, 0, 0⟩)) (Ai (.Pass ⟨0, 0, 0, 0⟩)) (ae (.Pass ⟨0, 0, 0, 0⟩)) .none .none .none .none none .none .none⟩
theorem aez (kV doc pm : Value) (an : Option Addr) (cdv ct : Value) (us : List Value) (hl : us.length = 1) : bindArgs (PySem.W.fnOf "law" "law" (aj Cf) (Ai Cf) (ae Cf) .none kV doc pm an cdv ct) ⟨us, []⟩ = pure ((["_law_script"] : List Str).zip us) := match us, hl with | [_], _ => rfl
theorem afa (w : World) {K : PySem.W.Frag} {mg : Str → Option Value} {h : Heap} (X : K.In h) (G : h.Ns mainGlobals mg)
    {g0 : Addr}
    {g1 : Addr}
    {g2 : Addr}
    {g3 : Addr}
    {g4 : Addr}
    {g5 : Addr}
    {g6 : Addr}
    {g7 : Addr}
    {g8 : Addr}
    {f1 : Addr} {oc1 kv1 dc1 pm1 cd1 ct1 : Value} {od1 an1 : Option Addr} {sl1 : Array (Option Value)}
    {f2 : Addr} {oc2 kv2 dc2 pm2 cd2 ct2 : Value} {od2 an2 : Option Addr} {sl2 : Array (Option Value)}
    {f3 : Addr} {oc3 kv3 dc3 pm3 cd3 ct3 : Value} {od3 an3 : Option Addr} {sl3 : Array (Option Value)}
    {f4 : Addr} {oc4 kv4 dc4 pm4 cd4 ct4 : Value} {od4 an4 : Option Addr} {sl4 : Array (Option Value)}
    {f5 : Addr} {oc5 kv5 dc5 pm5 cd5 ct5 : Value} {od5 an5 : Option Addr} {sl5 : Array (Option Value)}
    {f6 : Addr} {oc6 kv6 dc6 pm6 cd6 ct6 : Value} {od6 an6 : Option Addr} {sl6 : Array (Option Value)}
    {f7 : Addr} {oc7 kv7 dc7 pm7 cd7 ct7 : Value} {od7 an7 : Option Addr} {sl7 : Array (Option Value)}
    {f8 : Addr} {oc8 kv8 dc8 pm8 cd8 ct8 : Value} {od8 an8 : Option Addr} {sl8 : Array (Option Value)}
    {f9 : Addr} {oc9 kv9 dc9 pm9 cd9 ct9 : Value} {od9 an9 : Option Addr} {sl9 : Array (Option Value)}
    {f10 : Addr} {oc10 kv10 dc10 pm10 cd10 ct10 : Value} {od10 an10 : Option Addr} {sl10 : Array (Option Value)}
    {f11 : Addr} {oc11 kv11 dc11 pm11 cd11 ct11 : Value} {od11 an11 : Option Addr} {sl11 : Array (Option Value)}
    {f12 : Addr} {oc12 kv12 dc12 pm12 cd12 ct12 : Value} {od12 an12 : Option Addr} {sl12 : Array (Option Value)}
    {f13 : Addr} {oc13 kv13 dc13 pm13 cd13 ct13 : Value} {od13 an13 : Option Addr} {sl13 : Array (Option Value)}
    {f22 : Addr} {oc22 kv22 dc22 pm22 cd22 ct22 : Value} {od22 an22 : Option Addr} {sl22 : Array (Option Value)}
    {f23 : Addr} {oc23 kv23 dc23 pm23 cd23 ct23 : Value} {od23 an23 : Option Addr} {sl23 : Array (Option Value)}
    {f24 : Addr} {oc24 kv24 dc24 pm24 cd24 ct24 : Value} {od24 an24 : Option Addr} {sl24 : Array (Option Value)}
    {f25 : Addr} {oc25 kv25 dc25 pm25 cd25 ct25 : Value} {od25 an25 : Option Addr} {sl25 : Array (Option Value)}
    {f26 : Addr} {oc26 kv26 dc26 pm26 cd26 ct26 : Value} {od26 an26 : Option Addr} {sl26 : Array (Option Value)}
    {f27 : Addr} {oc27 kv27 dc27 pm27 cd27 ct27 : Value} {od27 an27 : Option Addr} {sl27 : Array (Option Value)}
    {f28 : Addr} {oc28 kv28 dc28 pm28 cd28 ct28 : Value} {od28 an28 : Option Addr} {sl28 : Array (Option Value)}
    {f29 : Addr} {oc29 kv29 dc29 pm29 cd29 ct29 : Value} {od29 an29 : Option Addr} {sl29 : Array (Option Value)}
    {f30 : Addr} {oc30 kv30 dc30 pm30 cd30 ct30 : Value} {od30 an30 : Option Addr} {sl30 : Array (Option Value)}
    {f31 : Addr} {oc31 kv31 dc31 pm31 cd31 ct31 : Value} {od31 an31 : Option Addr} {sl31 : Array (Option Value)}
    {f32 : Addr} {oc32 kv32 dc32 pm32 cd32 ct32 : Value} {od32 an32 : Option Addr} {sl32 : Array (Option Value)}
    {gt_LETTERS : Nat}
    {gt_LONGEST_NAME : Nat}
    {gt_MOST_KINDS : Nat}
    {gt_MOST_VALUES : Nat}
    {gt_WIDEST_BOUNDS : Nat}
    {ci1 : _}
    (ac0 : PySem.W.nsIn K mainGlobals "PartError" = some (some (.ref g0)))
    (ac1 : PySem.W.nsIn K mainGlobals "BadNames" = some (some (.ref g1)))
    (ac2 : PySem.W.nsIn K mainGlobals "BadTerm" = some (some (.ref g2)))
    (ac3 : PySem.W.nsIn K mainGlobals "BadStatement" = some (some (.ref g3)))
    (ac4 : PySem.W.nsIn K mainGlobals "NotTold" = some (some (.ref g4)))
    (ac5 : PySem.W.nsIn K mainGlobals "NoText" = some (some (.ref g5)))
    (ac6 : PySem.W.nsIn K mainGlobals "NoRow" = some (some (.ref g6)))
    (ac7 : PySem.W.nsIn K mainGlobals "NoNumber" = some (some (.ref g7)))
    (ac8 : PySem.W.nsIn K mainGlobals "Names" = some (some (.ref g8)))
    (a1 : PySem.W.nsIn K mainGlobals "is_whole" = some (some (.ref f1)))
    (l1 : K.lookup f1 = some ⟨oc1, od1, .func (PySem.W.fnOf "is_whole" "is_whole" (aj Eb) (Ai Eb) (ae Eb) .none kv1 dc1 pm1 an1 cd1 ct1), sl1⟩)
    (c1 : PySem.W.codeIn K cd1 "is_whole" = true)
    (k1 : PySem.W.keepIn K (.ref f1) = true)
    (a2 : PySem.W.nsIn K mainGlobals "is_name" = some (some (.ref f2)))
    (l2 : K.lookup f2 = some ⟨oc2, od2, .func (PySem.W.fnOf "is_name" "is_name" (aj Ec) (Ai Ec) (ae Ec) .none kv2 dc2 pm2 an2 cd2 ct2), sl2⟩)
    (c2 : PySem.W.codeIn K cd2 "is_name" = true)
    (k2 : PySem.W.keepIn K (.ref f2) = true)
    (a3 : PySem.W.nsIn K mainGlobals "is_row" = some (some (.ref f3)))
    (l3 : K.lookup f3 = some ⟨oc3, od3, .func (PySem.W.fnOf "is_row" "is_row" (aj Ed) (Ai Ed) (ae Ed) .none kv3 dc3 pm3 an3 cd3 ct3), sl3⟩)
    (c3 : PySem.W.codeIn K cd3 "is_row" = true)
    (k3 : PySem.W.keepIn K (.ref f3) = true)
    (a4 : PySem.W.nsIn K mainGlobals "is_kind" = some (some (.ref f4)))
    (l4 : K.lookup f4 = some ⟨oc4, od4, .func (PySem.W.fnOf "is_kind" "is_kind" (aj Ee) (Ai Ee) (ae Ee) .none kv4 dc4 pm4 an4 cd4 ct4), sl4⟩)
    (c4 : PySem.W.codeIn K cd4 "is_kind" = true)
    (k4 : PySem.W.keepIn K (.ref f4) = true)
    (a5 : PySem.W.nsIn K mainGlobals "is_list_of_names" = some (some (.ref f5)))
    (l5 : K.lookup f5 = some ⟨oc5, od5, .func (PySem.W.fnOf "is_list_of_names" "is_list_of_names" (aj Ef) (Ai Ef) (ae Ef) .none kv5 dc5 pm5 an5 cd5 ct5), sl5⟩)
    (c5 : PySem.W.codeIn K cd5 "is_list_of_names" = true)
    (k5 : PySem.W.keepIn K (.ref f5) = true)
    (a6 : PySem.W.nsIn K mainGlobals "is_bounded" = some (some (.ref f6)))
    (l6 : K.lookup f6 = some ⟨oc6, od6, .func (PySem.W.fnOf "is_bounded" "is_bounded" (aj eg) (Ai eg) (ae eg) .none kv6 dc6 pm6 an6 cd6 ct6), sl6⟩)
    (c6 : PySem.W.codeIn K cd6 "is_bounded" = true)
    (k6 : PySem.W.keepIn K (.ref f6) = true)
    (a7 : PySem.W.nsIn K mainGlobals "is_function" = some (some (.ref f7)))
    (l7 : K.lookup f7 = some ⟨oc7, od7, .func (PySem.W.fnOf "is_function" "is_function" (aj Eg) (Ai Eg) (ae Eg) .none kv7 dc7 pm7 an7 cd7 ct7), sl7⟩)
    (c7 : PySem.W.codeIn K cd7 "is_function" = true)
    (k7 : PySem.W.keepIn K (.ref f7) = true)
    (a8 : PySem.W.nsIn K mainGlobals "check_wholes" = some (some (.ref f8)))
    (l8 : K.lookup f8 = some ⟨oc8, od8, .func (PySem.W.fnOf "check_wholes" "check_wholes" (aj da) (Ai da) (ae da) .none kv8 dc8 pm8 an8 cd8 ct8), sl8⟩)
    (c8 : PySem.W.codeIn K cd8 "check_wholes" = true)
    (k8 : PySem.W.keepIn K (.ref f8) = true)
    (a9 : PySem.W.nsIn K mainGlobals "check_functions" = some (some (.ref f9)))
    (l9 : K.lookup f9 = some ⟨oc9, od9, .func (PySem.W.fnOf "check_functions" "check_functions" (aj eh) (Ai eh) (ae eh) .none kv9 dc9 pm9 an9 cd9 ct9), sl9⟩)
    (c9 : PySem.W.codeIn K cd9 "check_functions" = true)
    (k9 : PySem.W.keepIn K (.ref f9) = true)
    (a10 : PySem.W.nsIn K mainGlobals "check_names" = some (some (.ref f10)))
    (l10 : K.lookup f10 = some ⟨oc10, od10, .func (PySem.W.fnOf "check_names" "check_names" (aj Eh) (Ai Eh) (ae Eh) .none kv10 dc10 pm10 an10 cd10 ct10), sl10⟩)
    (c10 : PySem.W.codeIn K cd10 "check_names" = true)
    (k10 : PySem.W.keepIn K (.ref f10) = true)
    (a11 : PySem.W.nsIn K mainGlobals "first_parts" = some (some (.ref f11)))
    (l11 : K.lookup f11 = some ⟨oc11, od11, .func (PySem.W.fnOf "first_parts" "first_parts" (aj Ei) (Ai Ei) (ae Ei) .none kv11 dc11 pm11 an11 cd11 ct11), sl11⟩)
    (c11 : PySem.W.codeIn K cd11 "first_parts" = true)
    (k11 : PySem.W.keepIn K (.ref f11) = true)
    (a12 : PySem.W.nsIn K mainGlobals "check_unlike" = some (some (.ref f12)))
    (l12 : K.lookup f12 = some ⟨oc12, od12, .func (PySem.W.fnOf "check_unlike" "check_unlike" (aj ej) (Ai ej) (ae ej) .none kv12 dc12 pm12 an12 cd12 ct12), sl12⟩)
    (c12 : PySem.W.codeIn K cd12 "check_unlike" = true)
    (k12 : PySem.W.keepIn K (.ref f12) = true)
    (a13 : PySem.W.findIn K (.ref g8) "__init__" = some (some (.ref f13)))
    (i13 : PySem.W.isFn K (.ref f13) = true)
    (l13 : K.lookup f13 = some ⟨oc13, od13, .func (PySem.W.fnOf "__init__" "Names.__init__" (aj cq) (Ai cq) (ae cq) .none kv13 dc13 pm13 an13 cd13 ct13), sl13⟩)
    (c13 : PySem.W.codeIn K cd13 "Names.__init__" = true)
    (k13 : PySem.W.keepIn K (.ref f13) = true)
    (a22 : PySem.W.nsIn K mainGlobals "_law_cell_at" = some (some (.ref f22)))
    (l22 : K.lookup f22 = some ⟨oc22, od22, .func (PySem.W.fnOf "_law_cell_at" "_law_cell_at" (aj Dx) (Ai Dx) (ae Dx) .none kv22 dc22 pm22 an22 cd22 ct22), sl22⟩)
    (c22 : PySem.W.codeIn K cd22 "_law_cell_at" = true)
    (k22 : PySem.W.keepIn K (.ref f22) = true)
    (a23 : PySem.W.nsIn K mainGlobals "_law_names" = some (some (.ref f23)))
    (l23 : K.lookup f23 = some ⟨oc23, od23, .func (PySem.W.fnOf "_law_names" "_law_names" (aj cb) (Ai cb) (ae cb) .none kv23 dc23 pm23 an23 cd23 ct23), sl23⟩)
    (c23 : PySem.W.codeIn K cd23 "_law_names" = true)
    (k23 : PySem.W.keepIn K (.ref f23) = true)
    (a24 : PySem.W.nsIn K mainGlobals "_law_said" = some (some (.ref f24)))
    (l24 : K.lookup f24 = some ⟨oc24, od24, .func (PySem.W.fnOf "_law_said" "_law_said" (aj Dj) (Ai Dj) (ae Dj) .none kv24 dc24 pm24 an24 cd24 ct24), sl24⟩)
    (c24 : PySem.W.codeIn K cd24 "_law_said" = true)
    (k24 : PySem.W.keepIn K (.ref f24) = true)
    (a25 : PySem.W.nsIn K mainGlobals "_law_lists" = some (some (.ref f25)))
    (l25 : K.lookup f25 = some ⟨oc25, od25, .func (PySem.W.fnOf "_law_lists" "_law_lists" (aj dk) (Ai dk) (ae dk) .none kv25 dc25 pm25 an25 cd25 ct25), sl25⟩)
    (c25 : PySem.W.codeIn K cd25 "_law_lists" = true)
    (k25 : PySem.W.keepIn K (.ref f25) = true)
    (a26 : PySem.W.nsIn K mainGlobals "_law_no_name" = some (some (.ref f26)))
    (l26 : K.lookup f26 = some ⟨oc26, od26, .func (PySem.W.fnOf "_law_no_name" "_law_no_name" (aj Dp) (Ai Dp) (ae Dp) .none kv26 dc26 pm26 an26 cd26 ct26), sl26⟩)
    (c26 : PySem.W.codeIn K cd26 "_law_no_name" = true)
    (k26 : PySem.W.keepIn K (.ref f26) = true)
    (a27 : PySem.W.nsIn K mainGlobals "_law_no_stretch" = some (some (.ref f27)))
    (l27 : K.lookup f27 = some ⟨oc27, od27, .func (PySem.W.fnOf "_law_no_stretch" "_law_no_stretch" (aj dc) (Ai dc) (ae dc) .none kv27 dc27 pm27 an27 cd27 ct27), sl27⟩)
    (c27 : PySem.W.codeIn K cd27 "_law_no_stretch" = true)
    (k27 : PySem.W.keepIn K (.ref f27) = true)
    (a28 : PySem.W.nsIn K mainGlobals "_law_no_function" = some (some (.ref f28)))
    (l28 : K.lookup f28 = some ⟨oc28, od28, .func (PySem.W.fnOf "_law_no_function" "_law_no_function" (aj Dk) (Ai Dk) (ae Dk) .none kv28 dc28 pm28 an28 cd28 ct28), sl28⟩)
    (c28 : PySem.W.codeIn K cd28 "_law_no_function" = true)
    (k28 : PySem.W.keepIn K (.ref f28) = true)
    (a29 : PySem.W.nsIn K mainGlobals "_law_put" = some (some (.ref f29)))
    (l29 : K.lookup f29 = some ⟨oc29, od29, .func (PySem.W.fnOf "_law_put" "_law_put" (aj Cv) (Ai Cv) (ae Cv) .none kv29 dc29 pm29 an29 cd29 ct29), sl29⟩)
    (c29 : PySem.W.codeIn K cd29 "_law_put" = true)
    (k29 : PySem.W.keepIn K (.ref f29) = true)
    (a30 : PySem.W.nsIn K mainGlobals "_law_many_values" = some (some (.ref f30)))
    (l30 : K.lookup f30 = some ⟨oc30, od30, .func (PySem.W.fnOf "_law_many_values" "_law_many_values" (aj Dc) (Ai Dc) (ae Dc) .none kv30 dc30 pm30 an30 cd30 ct30), sl30⟩)
    (c30 : PySem.W.codeIn K cd30 "_law_many_values" = true)
    (k30 : PySem.W.keepIn K (.ref f30) = true)
    (a31 : PySem.W.nsIn K mainGlobals "_law_case" = some (some (.ref f31)))
    (l31 : K.lookup f31 = some ⟨oc31, od31, .func (PySem.W.fnOf "_law_case" "_law_case" (aj Bu) (Ai Bu) (ae Bu) .none kv31 dc31 pm31 an31 cd31 ct31), sl31⟩)
    (c31 : PySem.W.codeIn K cd31 "_law_case" = true)
    (k31 : PySem.W.keepIn K (.ref f31) = true)
    (a32 : PySem.W.nsIn K mainGlobals "law" = some (some (.ref f32)))
    (l32 : K.lookup f32 = some ⟨oc32, od32, .func (PySem.W.fnOf "law" "law" (aj Cf) (Ai Cf) (ae Cf) .none kv32 dc32 pm32 an32 cd32 ct32), sl32⟩)
    (c32 : PySem.W.codeIn K cd32 "law" = true)
    (k32 : PySem.W.keepIn K (.ref f32) = true)
    (gg_LETTERS : PySem.W.nsIn K mainGlobals "LETTERS" = some (some (.str (Str.ofString "abcdefghijklmnopqrstuvwxyz") gt_LETTERS)))
    (gg_LONGEST_NAME : PySem.W.nsIn K mainGlobals "LONGEST_NAME" = some (some (.int 8 gt_LONGEST_NAME)))
    (gg_MOST_KINDS : PySem.W.nsIn K mainGlobals "MOST_KINDS" = some (some (.int 3 gt_MOST_KINDS)))
    (gg_MOST_VALUES : PySem.W.nsIn K mainGlobals "MOST_VALUES" = some (some (.int 3600 gt_MOST_VALUES)))
    (gg_WIDEST_BOUNDS : PySem.W.nsIn K mainGlobals "WIDEST_BOUNDS" = some (some (.int 60 gt_WIDEST_BOUNDS)))
    (pg8 : PySem.W.plainGet K g8 Str.empty = true)
    (hd8 : PySem.W.hasDictIn K g8 = true)
    (po8 : PySem.W.plainOver K g8 = true)
    (sa8 : PySem.W.findIn K (.ref g8) "__setattr__" = some (some (.builtin "object.__setattr__")))
    (na_Names_arrays : PySem.W.findIn K (.ref g8) "arrays" = some none)
    (na_Names_deeds : PySem.W.findIn K (.ref g8) "deeds" = some none)
    (na_Names_functions : PySem.W.findIn K (.ref g8) "functions" = some none)
    (na_Names_limits : PySem.W.findIn K (.ref g8) "limits" = some none)
    (na_Names_numbers : PySem.W.findIn K (.ref g8) "numbers" = some none)
    (na_Names_things : PySem.W.findIn K (.ref g8) "things" = some none)
    (na_Names_unknowns : PySem.W.findIn K (.ref g8) "unknowns" = some none)
    (na_Names_wholes : PySem.W.findIn K (.ref g8) "wholes" = some none)
    (mk8 : PySem.W.makesIn K g8 = true)
    (kc8 : PySem.W.keepIn K (.ref g8) = true)
    (xc1 : PySem.W.excIn K g1 [.type "ValueError", .type "Exception", .type "BaseException", .type "object"] "ValueError.__new__" = true)
    (ecl1 : PySem.W.clsIn K g1 = some ci1)
    (ega1 : PySem.W.findIn K (.ref g1) "__getattribute__" = some (some (.builtin "BaseException.__getattribute__")))
    (egn1 : PySem.W.findIn K (.ref g1) "__getattr__" = some none)
    (eha1 : PySem.W.findIn K (.ref g1) "__class__" = some (some (.builtin "object.__class__")))
    (eob1 : PySem.W.mroIn K g1 (.type "object") = some true)
    (ebe1 : PySem.W.mroIn K g1 (.type "BaseException") = some true)
    (ehn : PySem.W.specialIn K (.builtin "object.__class__") "__get__" = some (some (.builtin "getset_descriptor.__get__")))
    (etk : PySem.W.takesIn K (.builtin "object.__class__") = some true)
    (kt_BadNames_BadNames : PySem.W.kitOne K (.ref g1) (.ref g1) = some true)
    (kt_BadNames_BadStatement : PySem.W.kitOne K (.ref g1) (.ref g3) = some false)
    (kt_BadNames_BadTerm : PySem.W.kitOne K (.ref g1) (.ref g2) = some false)
    (kt_BadNames_NoNumber : PySem.W.kitOne K (.ref g1) (.ref g7) = some false)
    (kt_BadNames_NoRow : PySem.W.kitOne K (.ref g1) (.ref g6) = some false)
    (kt_BadNames_NoText : PySem.W.kitOne K (.ref g1) (.ref g5) = some false)
    (kt_BadNames_NotTold : PySem.W.kitOne K (.ref g1) (.ref g4) = some false)
    (kt_BadNames_ValueError : PySem.W.kitOne K (.ref g1) (.type "ValueError") = some true)
    (xm_BadNames_PartError : PySem.W.exmOne K (.ref g1) (.ref g0) = some true)
    (z_ValueError : PySem.W.nsIn K mainGlobals "ValueError" = some none)
    (z_all : PySem.W.nsIn K mainGlobals "all" = some none)
    (z_bool : PySem.W.nsIn K mainGlobals "bool" = some none)
    (z_int : PySem.W.nsIn K mainGlobals "int" = some none)
    (z_isinstance : PySem.W.nsIn K mainGlobals "isinstance" = some none)
    (z_len : PySem.W.nsIn K mainGlobals "len" = some none)
    (z_list : PySem.W.nsIn K mainGlobals "list" = some none)
    (z_range : PySem.W.nsIn K mainGlobals "range" = some none)
    (z_set : PySem.W.nsIn K mainGlobals "set" = some none)
    (z_str : PySem.W.nsIn K mainGlobals "str" = some none)
    (z_tuple : PySem.W.nsIn K mainGlobals "tuple" = some none)
    : ∃ (ad : Nat → Addr) (fd : Nat → FuncData) (cf : Nat → Addr), Txt K mg ad fd ⟨w, cf⟩ ∧ ∀ (s : Shared) (u : Value), BindsTo s (fd 32) ⟨[u], []⟩ [("_law_script", u)] := by
  refine ⟨(so [0, f1, f2, f3, f4, f5, f6, f7, f8, f9, f10, f11, f12, f13, 0, 0, 0, 0, 0, 0, 0, 0, f22, f23, f24, f25, f26, f27, f28, f29, f30, f31, f32]), (fun i => ([default, PySem.W.fnOf "is_whole" "is_whole" (aj Eb) (Ai Eb) (ae Eb) .none kv1 dc1 pm1 an1 cd1 ct1, PySem.W.fnOf "is_name" "is_name" (aj Ec) (Ai Ec) (ae Ec) .none kv2 dc2 pm2 an2 cd2 ct2, PySem.W.fnOf "is_row" "is_row" (aj Ed) (Ai Ed) (ae Ed) .none kv3 dc3 pm3 an3 cd3 ct3, PySem.W.fnOf "is_kind" "is_kind" (aj Ee) (Ai Ee) (ae Ee) .none kv4 dc4 pm4 an4 cd4 ct4, PySem.W.fnOf "is_list_of_names" "is_list_of_names" (aj Ef) (Ai Ef) (ae Ef) .none kv5 dc5 pm5 an5 cd5 ct5, PySem.W.fnOf "is_bounded" "is_bounded" (aj eg) (Ai eg) (ae eg) .none kv6 dc6 pm6 an6 cd6 ct6, PySem.W.fnOf "is_function" "is_function" (aj Eg) (Ai Eg) (ae Eg) .none kv7 dc7 pm7 an7 cd7 ct7, PySem.W.fnOf "check_wholes" "check_wholes" (aj da) (Ai da) (ae da) .none kv8 dc8 pm8 an8 cd8 ct8, PySem.W.fnOf "check_functions" "check_functions" (aj eh) (Ai eh) (ae eh) .none kv9 dc9 pm9 an9 cd9 ct9, PySem.W.fnOf "check_names" "check_names" (aj Eh) (Ai Eh) (ae Eh) .none kv10 dc10 pm10 an10 cd10 ct10, PySem.W.fnOf "first_parts" "first_parts" (aj Ei) (Ai Ei) (ae Ei) .none kv11 dc11 pm11 an11 cd11 ct11, PySem.W.fnOf "check_unlike" "check_unlike" (aj ej) (Ai ej) (ae ej) .none kv12 dc12 pm12 an12 cd12 ct12, PySem.W.fnOf "__init__" "Names.__init__" (aj cq) (Ai cq) (ae cq) .none kv13 dc13 pm13 an13 cd13 ct13, default, default, default, default, default, default, default, default, PySem.W.fnOf "_law_cell_at" "_law_cell_at" (aj Dx) (Ai Dx) (ae Dx) .none kv22 dc22 pm22 an22 cd22 ct22, PySem.W.fnOf "_law_names" "_law_names" (aj cb) (Ai cb) (ae cb) .none kv23 dc23 pm23 an23 cd23 ct23, PySem.W.fnOf "_law_said" "_law_said" (aj Dj) (Ai Dj) (ae Dj) .none kv24 dc24 pm24 an24 cd24 ct24, PySem.W.fnOf "_law_lists" "_law_lists" (aj dk) (Ai dk) (ae dk) .none kv25 dc25 pm25 an25 cd25 ct25, PySem.W.fnOf "_law_no_name" "_law_no_name" (aj Dp) (Ai Dp) (ae Dp) .none kv26 dc26 pm26 an26 cd26 ct26, PySem.W.fnOf "_law_no_stretch" "_law_no_stretch" (aj dc) (Ai dc) (ae dc) .none kv27 dc27 pm27 an27 cd27 ct27, PySem.W.fnOf "_law_no_function" "_law_no_function" (aj Dk) (Ai Dk) (ae Dk) .none kv28 dc28 pm28 an28 cd28 ct28, PySem.W.fnOf "_law_put" "_law_put" (aj Cv) (Ai Cv) (ae Cv) .none kv29 dc29 pm29 an29 cd29 ct29, PySem.W.fnOf "_law_many_values" "_law_many_values" (aj Dc) (Ai Dc) (ae Dc) .none kv30 dc30 pm30 an30 cd30 ct30, PySem.W.fnOf "_law_case" "_law_case" (aj Bu) (Ai Bu) (ae Bu) .none kv31 dc31 pm31 an31 cd31 ct31, PySem.W.fnOf "law" "law" (aj Cf) (Ai Cf) (ae Cf) .none kv32 dc32 pm32 an32 cd32 ct32] : List FuncData).getD i default), (so [g0, g1, g2, g3, g4, g5, g6, g7, g8]), ⟨
    (bo (st := Eb) l1 c1 k1),
    (PySem.W.mg_of X G a1),
    (Binds.all fun us hl => match us, hl with | [_], _ => rfl),
    (bo (st := Ec) l2 c2 k2),
    (PySem.W.mg_of X G a2),
    (Binds.all fun us hl => match us, hl with | [_], _ => rfl),
    (bo (st := Ed) l3 c3 k3),
    (PySem.W.mg_of X G a3),
    (Binds.all fun us hl => match us, hl with | [_], _ => rfl),
    (bo (st := Ee) l4 c4 k4),
    (PySem.W.mg_of X G a4),
    (Binds.all fun us hl => match us, hl with | [_], _ => rfl),
    (bo (st := Ef) l5 c5 k5),
    (PySem.W.mg_of X G a5),
    (Binds.all fun us hl => match us, hl with | [_], _ => rfl),
    (bo (st := eg) l6 c6 k6),
    (PySem.W.mg_of X G a6),
    (Binds.all fun us hl => match us, hl with | [_], _ => rfl),
    (bo (st := Eg) l7 c7 k7),
    (PySem.W.mg_of X G a7),
    (Binds.all fun us hl => match us, hl with | [_], _ => rfl),
    (bo (st := da) l8 c8 k8),
    (PySem.W.mg_of X G a8),
    (Binds.all fun us hl => match us, hl with | [_], _ => rfl),
    (bo (st := eh) l9 c9 k9),
    (PySem.W.mg_of X G a9),
    (Binds.all fun us hl => match us, hl with | [_], _ => rfl),
    (bo (st := Eh) l10 c10 k10),
    (PySem.W.mg_of X G a10),
    (Binds.all fun us hl => match us, hl with | [_], _ => rfl),
    (bo (st := Ei) l11 c11 k11),
    (PySem.W.mg_of X G a11),
    (Binds.all fun us hl => match us, hl with | [_], _ => rfl),
    (bo (st := ej) l12 c12 k12),
    (PySem.W.mg_of X G a12),
    (Binds.all fun us hl => match us, hl with | [_], _ => rfl),
    (bo (st := cq) l13 c13 k13),
    (Binds.all fun us hl => match us, hl with | [_, _, _, _, _, _], _ => rfl),
    (bo (st := Dx) l22 c22 k22),
    (PySem.W.mg_of X G a22),
    (Binds.all fun us hl => match us, hl with | [_, _], _ => rfl),
    (bo (st := cb) l23 c23 k23),
    (PySem.W.mg_of X G a23),
    (Binds.all fun us hl => match us, hl with | [_, _], _ => rfl),
    (bo (st := Dj) l24 c24 k24),
    (PySem.W.mg_of X G a24),
    (Binds.all fun us hl => match us, hl with | [_], _ => rfl),
    (bo (st := dk) l25 c25 k25),
    (PySem.W.mg_of X G a25),
    (Binds.all fun us hl => match us, hl with | [_, _], _ => rfl),
    (bo (st := Dp) l26 c26 k26),
    (PySem.W.mg_of X G a26),
    (Binds.all fun us hl => match us, hl with | [_, _], _ => rfl),
    (bo (st := dc) l27 c27 k27),
    (PySem.W.mg_of X G a27),
    (Binds.all fun us hl => match us, hl with | [_, _, _], _ => rfl),
    (bo (st := Dk) l28 c28 k28),
    (PySem.W.mg_of X G a28),
    (Binds.all fun us hl => match us, hl with | [_, _, _], _ => rfl),
    (bo (st := Cv) l29 c29 k29),
    (PySem.W.mg_of X G a29),
    (Binds.all fun us hl => match us, hl with | [_, _, _, _], _ => rfl),
    (bo (st := Dc) l30 c30 k30),
    (PySem.W.mg_of X G a30),
    (Binds.all fun us hl => match us, hl with | [_, _, _], _ => rfl),
    (bo (st := Bu) l31 c31 k31),
    (PySem.W.mg_of X G a31),
    (Binds.all fun us hl => match us, hl with | [_, _, _], _ => rfl),
    (bo (st := Cf) l32 c32 k32),
    (PySem.W.mg_of X G a32),
    (Binds.all fun us hl => match us, hl with | [_], _ => rfl),
    (⟨_, PySem.W.mg_of X G gg_LETTERS, ⟨_, rfl⟩⟩),
    (⟨_, PySem.W.mg_of X G gg_LONGEST_NAME, ⟨_, rfl⟩⟩),
    (⟨_, PySem.W.mg_of X G gg_MOST_KINDS, ⟨_, rfl⟩⟩),
    (⟨_, PySem.W.mg_of X G gg_MOST_VALUES, ⟨_, rfl⟩⟩),
    (⟨_, PySem.W.mg_of X G gg_WIDEST_BOUNDS, ⟨_, rfl⟩⟩),
    (⟨pg8, hd8, po8, sa8⟩),
    (na_Names_arrays),
    (na_Names_deeds),
    (na_Names_functions),
    (na_Names_limits),
    (na_Names_numbers),
    (na_Names_things),
    (na_Names_unknowns),
    (na_Names_wholes),
    (⟨mk8, a13, i13, kc8⟩),
    (PySem.W.mg_of X G ac1),
    (PySem.W.mg_of X G ac3),
    (PySem.W.mg_of X G ac2),
    (PySem.W.mg_of X G ac8),
    (PySem.W.mg_of X G ac7),
    (PySem.W.mg_of X G ac6),
    (PySem.W.mg_of X G ac5),
    (PySem.W.mg_of X G ac4),
    (PySem.W.mg_of X G ac0),
    (ac1),
    (xc1),
    (by
    intro n k h
    unfold tab at h
    split at h
    · have e := Option.some.inj (h.symm.trans (by rfl : _ = some true)); subst e; exact ⟨⟨Option.isSome_iff_exists.mpr ⟨_, ecl1⟩, ega1, egn1, eha1, ehn, etk, eob1, ebe1⟩, kt_BadNames_BadNames⟩
    · cases h),
    (by
    intro n k h
    unfold tab at h
    split at h
    · have e := Option.some.inj (h.symm.trans (by rfl : _ = some false)); subst e; exact ⟨⟨Option.isSome_iff_exists.mpr ⟨_, ecl1⟩, ega1, egn1, eha1, ehn, etk, eob1, ebe1⟩, kt_BadNames_BadStatement⟩
    · cases h),
    (by
    intro n k h
    unfold tab at h
    split at h
    · have e := Option.some.inj (h.symm.trans (by rfl : _ = some false)); subst e; exact ⟨⟨Option.isSome_iff_exists.mpr ⟨_, ecl1⟩, ega1, egn1, eha1, ehn, etk, eob1, ebe1⟩, kt_BadNames_BadTerm⟩
    · cases h),
    (by
    intro n k h
    unfold tab at h
    split at h
    · have e := Option.some.inj (h.symm.trans (by rfl : _ = some false)); subst e; exact ⟨⟨Option.isSome_iff_exists.mpr ⟨_, ecl1⟩, ega1, egn1, eha1, ehn, etk, eob1, ebe1⟩, kt_BadNames_NoNumber⟩
    · cases h),
    (by
    intro n k h
    unfold tab at h
    split at h
    · have e := Option.some.inj (h.symm.trans (by rfl : _ = some false)); subst e; exact ⟨⟨Option.isSome_iff_exists.mpr ⟨_, ecl1⟩, ega1, egn1, eha1, ehn, etk, eob1, ebe1⟩, kt_BadNames_NoRow⟩
    · cases h),
    (by
    intro n k h
    unfold tab at h
    split at h
    · have e := Option.some.inj (h.symm.trans (by rfl : _ = some false)); subst e; exact ⟨⟨Option.isSome_iff_exists.mpr ⟨_, ecl1⟩, ega1, egn1, eha1, ehn, etk, eob1, ebe1⟩, kt_BadNames_NoText⟩
    · cases h),
    (by
    intro n k h
    unfold tab at h
    split at h
    · have e := Option.some.inj (h.symm.trans (by rfl : _ = some false)); subst e; exact ⟨⟨Option.isSome_iff_exists.mpr ⟨_, ecl1⟩, ega1, egn1, eha1, ehn, etk, eob1, ebe1⟩, kt_BadNames_NotTold⟩
    · cases h),
    (by
    intro n k h
    unfold tab at h
    split at h
    · have e := Option.some.inj (h.symm.trans (by rfl : _ = some true)); subst e; exact ⟨⟨Option.isSome_iff_exists.mpr ⟨_, ecl1⟩, ega1, egn1, eha1, ehn, etk, eob1, ebe1⟩, kt_BadNames_ValueError⟩
    · cases h),
    (by
    intro n h
    unfold tab at h
    split at h
    · exact xm_BadNames_PartError
    · cases h),
    (PySem.W.mg_none_of X G z_ValueError),
    (PySem.W.mg_none_of X G z_all),
    (PySem.W.mg_none_of X G z_bool),
    (PySem.W.mg_none_of X G z_int),
    (PySem.W.mg_none_of X G z_isinstance),
    (PySem.W.mg_none_of X G z_len),
    (PySem.W.mg_none_of X G z_list),
    (PySem.W.mg_none_of X G z_range),
    (PySem.W.mg_none_of X G z_set),
    (PySem.W.mg_none_of X G z_str),
    (PySem.W.mg_none_of X G z_tuple)⟩, fun s u => .of_eq (aez _ _ _ _ _ _ [u] rfl)⟩
def Nw (FF n : Nat) : List D → Sto → Res D := Cg tab fns FF n 32
theorem walk {n : Nat} {l : PySem.W.OpenLaw} {q : Program} {loose : List Str} {XP : (Str → Option Value) → Heap → Prop} {YP : World → Heap → Prop} {d : DefRec} {K : Params → PySem.W.Frag} (hn : l.most = some 63) (hdf : d.params.defaults = []) (hN : d.name = "law") (hr : Room (2 * n) callerA)
    (hY : ∀ (w : World) (h : Heap), YP w h → (K w.params).In h)
    (hT : ∀ (w : World) (mg : Str → Option Value) (h : Heap), (K w.params).In h → h.Ns mainGlobals mg → ∃ (ad : Nat → Addr) (fd : Nat → FuncData) (cf : Nat → Addr), Txt (K w.params) mg ad fd ⟨w, cf⟩ ∧ ∀ (s : Shared) (u : Value), BindsTo s (fd 32) ⟨[u], []⟩ [("_law_script", u)])
    (hm : ∀ ns : List Int, ns.length ≤ 63 → ∃ FF st, Nw FF n [.loc 0] [.frz (ns.map D.int)] = .ok (.bl true) st) :
    PySem.W.WalkO q loose XP YP l.row.toRowW d [] (fun f vs => PySem.call f vs) := by
  refine L2.Xk (n := 63) (k := 2 * n) (x := "_law_script") (CX := fun w => CXd l.prog w) (sp := fun w vs H Q E => ∀ cls, ∃ FF, spD (K w.params) cls 1 (Nw FF n) vs H Q E) hn (by decide) hdf hr hY ?_ ?_ fun w H s e s' z => zp H s e s' z
  · intro w mg fa h X G hfa
    obtain ⟨ad, fd, cf, T, hb⟩ := hT w mg h X G
    rw [hN, T.m_law] at hfa
    cases hfa
    refine ⟨fd 32, hb, fun base _ _ => ?_⟩
    have F := fun FF => (Sn (Pr := l.prog) (w := w) (base := base) (FF := FF) (cls := ⟨w, cf⟩) rfl T n).i_law
    exact ⟨fun vs H Q E h => let ⟨FF, h⟩ := h ⟨w, cf⟩; (F FF).len vs H Q E h, fun A outer s H args us vs Q E h1 h2 h3 h4 h => let ⟨FF, h⟩ := h ⟨w, cf⟩; (F FF).run A outer s H args us vs Q E h1 h2 h3 h4 h⟩
  · exact fun w H a ns hl hO hS cls => let ⟨FF, st, e⟩ := hm ns hl; ⟨FF, Zo e H a hO hS⟩
end My
namespace My
open PySem L2 DD
local macro_rules | `(tactic| infer_instance) => `(tactic| first
 | with_reducible refine Be ?_ | with_reducible refine Ez ?_ | with_reducible refine bh ?_ | with_reducible refine Gf ?_ | with_reducible refine abn ?_ | with_reducible refine gx ?_
 | with_reducible refine w_var rfl ?_ | with_reducible refine Cu ?_ | with_reducible refine Ea ?_ | with_reducible refine dw ?_
 | with_reducible refine Io ?_ | with_reducible refine aaq ?_ | with_reducible refine aas ?_ | with_reducible refine Jw ?_ | with_reducible refine aat ?_ | with_reducible refine Rj ?_
 | with_reducible refine dj ?_ | with_reducible refine Fu ?_ | with_reducible refine gw ?_ | with_reducible refine rn ?_ | with_reducible refine ng ?_ | with_reducible refine Rn ?_ | with_reducible refine abl ?_ | with_reducible refine abh ?_ | with_reducible refine abi ?_ | with_reducible refine abj ?_ | with_reducible refine abk rfl ?_
 | with_reducible refine aba ?_ | with_reducible refine Rk ?_ | with_reducible refine Nf ?_ | with_reducible refine fu ?_ | with_reducible refine abb ?_ | with_reducible refine Rl ?_ | with_reducible refine abd ?_ | with_reducible refine Rm ?_ | with_reducible refine abe ?_
 | with_reducible refine w_and ?_ | with_reducible refine w_or ?_ | with_reducible refine w_not ?_ | with_reducible refine aar ?_ | with_reducible refine aau ?_ | with_reducible refine aay ?_ | with_reducible refine Nd ?_ | with_reducible refine aao ?_ | with_reducible refine aap ?_ | with_reducible refine w_fld ?_ | with_reducible refine aaz ?_ | with_reducible refine w_mk ?_ | with_reducible refine aax ?_ | with_reducible refine aan ?_ | with_reducible refine aam ?_ | with_reducible refine aav ?_ | with_reducible refine aaw ?_
 | with_reducible refine abf ?_ | with_reducible refine abg ?_ | with_reducible refine Ng ?_ | with_reducible refine ni ?_
 | with_reducible refine abo ?_ | with_reducible refine abp ?_ | with_reducible refine Gg ?_ | with_reducible refine Rp ?_ | with_reducible refine abv ?_ | with_reducible refine abw ?_ | with_reducible refine abx ?_ | with_reducible refine aby ?_ | with_reducible refine abz ?_ | with_reducible refine aca ?_ | with_reducible refine ace ?_ | with_reducible refine acg ?_ | with_reducible refine aci ?_ | with_reducible refine acj ?_
 | with_reducible refine Ro (by decide) ?_ | with_reducible refine gg (by decide) ?_ | with_reducible refine abr (by decide) ?_ | with_reducible refine abq (by decide) ?_ | with_reducible refine abt (by decide) ?_
 | with_reducible refine Jy ?_ | with_reducible refine jz ?_ | with_reducible refine ck ?_ | with_reducible refine Dv ?_
 | with_reducible refine ⟨_, rfl, ck ?_⟩ | with_reducible refine ⟨_, rfl, Dv ?_⟩
 | (with_reducible refine And.intro (a := _ < List.length _) (of_decide_eq_true rfl) ?_) | (with_reducible refine And.intro (a := List.length _ ≤ sizeLine) (of_decide_eq_true rfl) ?_))
section
variable {FF n : Nat} {st : Sto}
abbrev C (FF n : Nat) := Cg tab fns FF n
theorem So {FF n f : Nat} {args : List D} {st : Sto} {fn : Fn} (h : fns[f]? = some fn) (hl : args.length = fn.np) (hn : fn.np ≤ fn.nl) :
    C FF (n + 1) f args st = fin (ag tab (C FF n) FF fn.body (args.map some ++ List.replicate (fn.nl - fn.np) none) st) := by
  show (match fns[f]? with
      | some fn => if args.length = fn.np ∧ fn.np ≤ fn.nl then fin (ag tab (Cg tab fns FF n) FF fn.body (args.map some ++ List.replicate (fn.nl - fn.np) none) st) else .bad
      | none => .bad) = _
  rw [h]; simp only; rw [if_pos ⟨hl, hn⟩]
abbrev W (x : String) : D := .str (Str.ofString x)
theorem szl (k : Nat) (h : k ≤ 16000000) : k ≤ sizeLine := Nat.le_trans h (by decide)
def ABC : Str := Str.ofString "abcdefghijklmnopqrstuvwxyz"
structure Nm (x : Str) : Prop where
 lo : 1 ≤ x.length
 hi : x.length ≤ 8
 abc : ∀ c ∈ x.cps.toList, ∃ k : Fin 26, c = 97 + k.val
end
section
variable {FF n : Nat} {st : Sto}
end
section
variable {FF n : Nat} {st : Sto}
theorem Sq : PyData.canLay0 (.str (Str.ofString "num")) = true := by decide +kernel
theorem sr : PyData.canLay0 (.str (Str.ofString "thing")) = true := by decide +kernel
def Kd (d : D) : Prop := d = W "num" ∨ d = W "thing"
end
section
variable {FF n : Nat} {st : Sto}
theorem Sr : ∀ (xs acc : List D), (acc ++ xs).Nodup → xs.foldl (fun acc x => if x ∈ acc then acc else acc ++ [x]) acc = acc ++ xs
 | [], acc, _ => by simp
 | d :: r, acc, h => by
  have hd : d ∉ acc := fun z => by
   rw [List.nodup_append] at h
   exact h.2.2 d z d (by simp) rfl
  rw [List.foldl_cons, if_neg hd, Sr r (acc ++ [d]) (by simpa using h)]
  simp
theorem afb {xs : List Str} {l : Nat} (hl : af st l = some (xs.map D.str)) (h : xs.Nodup) (hz : xs.length ≤ 1000) : C FF (n + 1) 12 [.loc l] st = .ok .non st := by
 rw [So (fn := ⟨1, 1, Gx⟩) rfl rfl (by decide)]
 have hn : (xs.map D.str).Nodup := by
  rw [List.nodup_iff_pairwise_ne, List.pairwise_map]
  exact List.Pairwise.imp (fun hab e => hab (D.str.inj e)) (List.nodup_iff_pairwise_ne.mp h)
 have ho : fz (xs.map D.str) = xs.map D.str := by
  have := Sr (xs.map D.str) [] (by simpa using hn)
  simpa [fz] using this
 have hk : ∀ a : Str, Bv (.str a) = true := fun _ => rfl
 have hz2 : xs.length < 4000 := by omega
 simp [Gx, gv, ft, my, Aj, Aa, Ap, bw, btD, hl, ho, hk, hz2, Rg, fin]
end
section
variable {FF n : Nat} {st : Sto}
theorem su {rows : List D} {xs : List Str} {l : Nat} (hl : af st l = some rows) (hz : rows.length ≤ 1000) (hr : ∀ d ∈ rows, ∃ x r, d = .tup (.str x :: r)) (hx : rows.filterMap (fun d => match d with | .tup (.str x :: _) => some (D.str x) | _ => none) = xs.map D.str) :
    ∃ st', C FF (n + 1) 11 [.loc l] st = .ok (.loc st.length) st' ∧ Fr st st' ∧ st'[st.length]? = some (.lst (xs.map D.str)) := by
  rw [So (fn := ⟨1, 1, Ip⟩) rfl rfl (by decide)]
  have ei : Aa tab (C FF n) (.var 0) [some (.loc l)] st = .ok (.loc l) st := rh rfl
  have hb : ∀ d ∈ rows, ∀ s, Fr st s → ∃ s', Ge tab (C FF n) [0] true [none] .nil (.ix (.var 0) (.cst (.int 0))) d s = .ok ((fun d => match d with | D.tup (.str x :: _) => some (D.str x) | _ => none) d) s' ∧ Fr s s' := by
    intro d hd s Fs
    obtain ⟨x, r, rfl⟩ := hr d hd
    refine ⟨s, ?_, .refl _⟩
    simp [Ge, store, br, Bj, Aa, Ap, bw, aad, L2.atI, L2.ixN]
  obtain ⟨s', e, Fr', y⟩ := Ri (all := rows) (p := some l) (f := fun d => match d with | D.tup (.str x :: _) => some (D.str x) | _ => none) (szl _ (by omega)) (fun s Fs => Ft hl Fs) hb
  rw [hx] at y
  refine ⟨s', ?_, Fr', y⟩
  show fin (ag tab (C FF n) FF Ip [some (.loc l)] st) = _
  unfold Ip
  have ec : Aa tab (C FF n) (.comp 0 true 1 [0] [] (.var 0) .nil (.ix (.var 0) (.cst (.int 0)))) [some (.loc l)] st = .ok (.loc st.length) s' := by
    rw [mz ei (by simp only [Bi, hl]; rfl)]
    have en : bj 1 [] [some (D.loc l)] = [none] := rfl
    rw [en, e]
    rfl
  rw [aag ec, aah]
end
section
variable {FF n : Nat} {st : Sto}
def gi (d : D) : Prop := ∃ x ks k, d = .tup [.str x, .tup ks, k] ∧ Nm x ∧ (∀ d ∈ ks, Kd d) ∧ 1 ≤ ks.length ∧ ks.length ≤ 3 ∧ Kd k
end
section
variable {FF n : Nat} {st : Sto}
abbrev Aw (w : Str × Int × Int) : D := .tup [.str w.1, .int w.2.1, .int w.2.2]
def Au (ws : List (Str × Int × Int)) : Int := ws.foldl (fun a w => a * (w.2.2 - w.2.1 + 1)) 1
structure WRow (w : Str × Int × Int) : Prop where
 nm : Nm w.1
 lo : w.2.1 ≤ w.2.2
 hi : w.2.2 ≤ w.2.1 + 60
end
section
variable {FF n : Nat} {st : Sto}
structure Vals where
 nums : List Str
 ws : List (Str × Int × Int)
 things : List Str
 fs : List (Str × List D × D)
 arrs : List Str
abbrev Bp (f : Str × List D × D) : D := .tup [.str f.1, .tup f.2.1, f.2.2]
abbrev Lb (w : Str × Int × Int) : D × D := (.str w.1, .tup [.int w.2.1, .int w.2.2])
abbrev Ld (f : Str × List D × D) : D × D := (.str f.1, .tup [.tup f.2.1, f.2.2])
abbrev unk (k : String) (x : Str) : D × D := (.str x, W k)
def Vals.unks (V : Vals) : List (D × D) := V.nums.map (unk "num") ++ (V.ws.map (·.1)).map (unk "num") ++ V.things.map (unk "thing") ++ V.arrs.map (unk "array")
def Vals.names (V : Vals) : List Str := V.nums ++ V.ws.map (·.1) ++ V.things ++ V.fs.map (·.1) ++ V.arrs
structure VOk (V : Vals) : Prop where
 nums : ∀ x ∈ V.nums, Nm x
 ws : ∀ w ∈ V.ws, WRow w
 things : ∀ x ∈ V.things, Nm x
 fs : ∀ f ∈ V.fs, gi (Bp f)
 arrs : ∀ x ∈ V.arrs, Nm x
 nd : V.names.Nodup
 prod : Au V.ws ≤ 3600
 len : V.names.length ≤ 100
theorem afc {kvs : List (D × D)} {k v : D} (h : k ∉ kvs.map (·.1)) : bx kvs k v = kvs ++ [(k, v)] := by
 unfold bx
 rw [if_neg]
 intro g
 rw [List.any_eq_true] at g
 obtain ⟨p, hp, e⟩ := g
 exact h (List.mem_map.mpr ⟨p, hp, of_decide_eq_true e⟩)
theorem Hd : ∀ {more kvs : List (D × D)}, ((kvs ++ more).map (·.1)).Nodup → cu kvs more = kvs ++ more
 | [], kvs, _ => by simp [cu]
 | (k, v) :: r, kvs, h => by
  have hk : k ∉ kvs.map (·.1) := by
   rw [List.map_append, List.nodup_append] at h
   exact fun z => h.2.2 k z k (by simp) rfl
  have := Hd (more := r) (kvs := kvs ++ [(k, v)]) (by simpa using h)
  unfold cu at this ⊢
  rw [List.foldl_cons, afc hk, this]
  simp
structure Hp (o : Nat) (fs : List (Str × D)) (kn : List (Nat × Cell)) (st s : Sto) : Prop where
 fr : ∀ j, j < st.length → j ≠ o → s[j]? = st[j]?
 len : st.length ≤ s.length
 at_ : s[o]? = some (.ins 8 fs)
 has : ∀ p ∈ kn, s[p.1]? = some p.2
 ge : ∀ p ∈ kn, st.length ≤ p.1
 ol : o < st.length
 nd : (kn.map (·.1)).Nodup
variable {o : Nat} {fs : List (Str × D)} {kn : List (Nat × Cell)} {s s' : Sto} {f : Str} {d : D} {c : Cell}
theorem Hp.frs (h : Hp o fs kn st s) (F : Fr s s') : Hp o fs kn st s' := ⟨fun j h1 h2 => (F j (Nat.lt_of_lt_of_le h1 h.len)).trans (h.fr j h1 h2), Nat.le_trans h.len F.len, F.at h.at_, fun p hp => F.at (h.has p hp), h.ge, h.ol, h.nd⟩
theorem Hp.new (h : Hp o fs kn st s) (F : Fr s s') (e : s'[s.length]? = some c) : Hp o fs ((s.length, c) :: kn) st s' := by
 have g := h.frs F
 refine ⟨g.fr, g.len, g.at_, ?_, ?_, h.ol, ?_⟩
 · intro p hp
   rcases List.mem_cons.mp hp with rfl | hp
   · exact e
   · exact g.has p hp
 · intro p hp
   rcases List.mem_cons.mp hp with rfl | hp
   · exact h.len
   · exact h.ge p hp
 · rw [List.map_cons, List.nodup_cons]
   refine ⟨fun z => ?_, h.nd⟩
   obtain ⟨p, hp, e⟩ := List.mem_map.mp z
   have := (List.getElem?_eq_some_iff.mp (h.has p hp)).1
   omega
theorem Hp.setf (h : Hp o fs kn st s) (fs' : List (Str × D)) : Hp o fs' kn st (s.set o (.ins 8 fs')) := by
 refine ⟨fun j h1 h2 => ?_, by simpa using h.len, Dz h.at_ _, fun p hp => ?_, h.ge, h.ol, h.nd⟩
 · rw [List.getElem?_set_ne (Ne.symm h2)]; exact h.fr j h1 h2
 · have := h.ge p hp
   have := h.ol
   rw [List.getElem?_set_ne (by omega)]; exact h.has p hp
theorem Hp.setc {l : Nat} {c' : Cell} (h : Hp o fs ((l, c) :: kn) st s) : Hp o fs ((l, c') :: kn) st (s.set l c') := by
 have hl := h.ge _ List.mem_cons_self
 have ho := h.ol
 refine ⟨fun j h1 h2 => ?_, by simpa using h.len, ?_, fun p hp => ?_, fun p hp => ?_, h.ol, h.nd⟩
 · rw [List.getElem?_set_ne (by simp at hl; omega)]; exact h.fr j h1 h2
 · rw [List.getElem?_set_ne (by simp at hl; omega)]; exact h.at_
 · rcases List.mem_cons.mp hp with rfl | hp
   · exact Dz (h.has _ List.mem_cons_self) _
   · have nd := h.nd
     rw [List.map_cons, List.nodup_cons] at nd
     rw [List.getElem?_set_ne (fun e => nd.1 (List.mem_map.mpr ⟨p, hp, e.symm⟩))]
     exact h.has p (List.mem_cons_of_mem _ hp)
 · rcases List.mem_cons.mp hp with rfl | hp
   · exact hl
   · exact h.ge p (List.mem_cons_of_mem _ hp)
theorem Hp.old {l : Nat} (h : Hp o fs kn st s) (hl : st[l]? = some c) (ho : l ≠ o) : s[l]? = some c := by
 rw [h.fr l (List.getElem?_eq_some_iff.mp hl).1 ho]; exact hl
theorem Su {l : Nat} {xs : List D} (h : s[l]? = some (.lst xs)) : Cn s (.loc l) = some xs := by simp only [Cn, af, h]
end
section
variable {FF n : Nat} {st : Sto} {V : Vals} {o l1 l2 l3 l4 l5 : Nat}
structure Args (st : Sto) (V : Vals) (o l1 l2 l3 l4 l5 : Nat) : Prop where
 h1 : st[l1]? = some (.lst (V.nums.map D.str))
 h2 : st[l2]? = some (.lst (V.ws.map Aw))
 h3 : st[l3]? = some (.lst (V.things.map D.str))
 h4 : st[l4]? = some (.lst (V.fs.map Bp))
 h5 : st[l5]? = some (.lst (V.arrs.map D.str))
 n1 : l1 ≠ o
 n2 : l2 ≠ o
 n3 : l3 ≠ o
 n4 : l4 ≠ o
 n5 : l5 ≠ o
theorem afd (h : VOk V) : V.nums.length + V.ws.length + V.things.length + V.fs.length + V.arrs.length ≤ 100 := by
 have := h.len
 unfold Vals.names at this
 simp at this
 omega
theorem Sv {l : Nat} {ws : List (Str × Int × Int)} {st : Sto} (hl : af st l = some (ws.map Aw)) (hz : ws.length ≤ 1000) : Wr (C FF (n + 1) 11 [.loc l] st) fun d s => d = .loc st.length ∧ Fr st s ∧ s[st.length]? = some (.lst ((ws.map (·.1)).map D.str)) := by
 obtain ⟨s, e, F, y⟩ := su (FF := FF) (n := n) (xs := ws.map (·.1)) hl (by simpa using hz) (fun d hd => by
  obtain ⟨w, _, rfl⟩ := List.mem_map.mp hd
  exact ⟨_, _, rfl⟩) (by rw [List.filterMap_map]; show ws.filterMap (fun w => some (D.str w.1)) = _; rw [Di, List.map_map]; rfl)
 exact ⟨_, _, e, rfl, F, y⟩
theorem afe {l : Nat} {ws : List (Str × List D × D)} {st : Sto} (hl : af st l = some (ws.map Bp)) (hz : ws.length ≤ 1000) : Wr (C FF (n + 1) 11 [.loc l] st) fun d s => d = .loc st.length ∧ Fr st s ∧ s[st.length]? = some (.lst ((ws.map (·.1)).map D.str)) := by
 obtain ⟨s, e, F, y⟩ := su (FF := FF) (n := n) (xs := ws.map (·.1)) hl (by simpa using hz) (fun d hd => by
  obtain ⟨w, _, rfl⟩ := List.mem_map.mp hd
  exact ⟨_, _, rfl⟩) (by rw [List.filterMap_map]; show ws.filterMap (fun w => some (D.str w.1)) = _; rw [Di, List.map_map]; rfl)
 exact ⟨_, _, e, rfl, F, y⟩
def Sw : Ss := match gy with
 | .cons a (.cons b (.cons c (.cons d r))) => r
 | _ => .nil
abbrev Bs (o l1 l2 l3 l4 l5 : Nat) (x : Option D) : DD.Env := [some (.loc o), some (.loc l1), some (.loc l2), some (.loc l3), some (.loc l4), some (.loc l5), x]
end
section
variable {FF n : Nat} {st : Sto} {V : Vals} {o l1 l2 l3 l4 l5 : Nat}
def aff (s : Sto) (o lb : Nat) (V : Vals) : Prop := ∃ a b c d e f g h, s[o]? = some (.ins 8 [(Str.ofString "numbers", .loc a), (Str.ofString "wholes", .loc b), (Str.ofString "things", .loc c), (Str.ofString "functions", .loc d), (Str.ofString "arrays", .loc e), (Str.ofString "limits", .loc f), (Str.ofString "deeds", .loc g), (Str.ofString "unknowns", .loc h)]) ∧
 (lb ≤ a ∧ lb ≤ b ∧ lb ≤ c ∧ lb ≤ d ∧ lb ≤ e ∧ lb ≤ f ∧ lb ≤ g ∧ lb ≤ h) ∧ s[a]? = some (.lst (V.nums.map D.str)) ∧ s[b]? = some (.lst (V.ws.map Aw)) ∧ s[c]? = some (.lst (V.things.map D.str)) ∧ s[d]? = some (.lst (V.fs.map Bp)) ∧ s[e]? = some (.lst (V.arrs.map D.str)) ∧
 s[f]? = some (.dct (V.ws.map Lb)) ∧ s[g]? = some (.dct (V.fs.map Ld)) ∧ s[h]? = some (.dct V.unks)
theorem Iy {xs : List Str} (h : xs.Nodup) : (xs.map D.str).Nodup := by
 rw [List.nodup_iff_pairwise_ne, List.pairwise_map]
 exact List.Pairwise.imp (fun hab e => hab (D.str.inj e)) (List.nodup_iff_pairwise_ne.mp h)
theorem afg (h : VOk V) : (V.ws.map (·.1)).Nodup := by
 have := h.nd
 unfold Vals.names at this
 simp only [List.nodup_append] at this
 exact this.1.1.1.2.1
theorem afh (h : VOk V) : (V.fs.map (·.1)).Nodup := by
 have := h.nd
 unfold Vals.names at this
 simp only [List.nodup_append] at this
 exact this.1.2.1
theorem afi (h : VOk V) : (V.nums ++ V.ws.map (·.1) ++ V.things ++ V.arrs).Nodup := by
 refine h.nd.sublist ?_
 unfold Vals.names
 exact List.Sublist.append (List.sublist_append_left _ _) (List.Sublist.refl _)
variable {fs : List (Str × D)} {kn : List (Nat × Cell)} {s : Sto}
theorem set_list {l i : Nat} {f : Str} {xs : List D} {r : Ss} {x : Option D} {Q : Fl → Sto → Prop} (hv : bw (Bs o l1 l2 l3 l4 l5 x) i = some (.loc l)) (H : Hp o fs kn st s) (hl : st[l]? = some (.lst xs)) (ho : l ≠ o) (hf : fs.length < 900) (hp : ∀ a, Ct f (.loc a) fs = fs ++ [(f, .loc a)])
    (q : ∀ s' a, Hp o (fs ++ [(f, .loc a)]) ((a, .lst xs) :: kn) st s' → Wr (ag tab (C FF n) FF r (Bs o l1 l2 l3 l4 l5 x) s') Q) : Wr (ag tab (C FF n) FF (.cons (.setf 8 (.var 0) f (.bt .listB (.cons (.var i) .nil))) r) (Bs o l1 l2 l3 l4 l5 x) s) Q := by
  refine Be (ng (Jw (Ea (w_var hv (dw (Rq (Su (H.old hl ho)) (w_var rfl ⟨o, fs, rfl, ?_, hf, bh (q _ s.length ?_)⟩)))))))
  · exact (Fr.app _).at H.at_
  · rw [hp]; exact (H.new (.app _) (gg0.trans rfl)).setf _
theorem set_dict {nl : Nat} {one : Bool} {tg : List Nat} {it kx vx : E} {f : Str} {xs : List D} {r : Ss} {x : Option D} {Q : Fl → Sto → Prop} {g : D → Option (D × D)} (H : Hp o fs kn st s) (hf : fs.length < 900) (hp : ∀ a, Ct f (.loc a) fs = fs ++ [(f, .loc a)])
    (hi : Wr (Aa tab (C FF n) it (Bs o l1 l2 l3 l4 l5 x) s) fun d s1 => Fr s s1 ∧ ∃ l, d = .loc l ∧ s1[l]? = some (.lst xs)) (hl : xs.length ≤ 1000) (hk : ∀ d ∈ xs, ∀ k y, g d = some (k, y) → Bv k = true)
    (hb : ∀ d ∈ xs, ∀ s', Wr (Gw tab (C FF n) tg one (bj nl [] (Bs o l1 l2 l3 l4 l5 x)) .nil kx vx d s') fun r s2 => r = g d ∧ Fr s' s2) {kvs : List (D × D)} (hg : cu [] (xs.filterMap g) = kvs)
    (q : ∀ s' a, Hp o (fs ++ [(f, .loc a)]) ((a, .dct kvs) :: kn) st s' → Wr (ag tab (C FF n) FF r (Bs o l1 l2 l3 l4 l5 x) s') Q) : Wr (ag tab (C FF n) FF (.cons (.setf 8 (.var 0) f (.dcomp 0 one nl tg [] it .nil kx vx)) r) (Bs o l1 l2 l3 l4 l5 x) s) Q := by
  refine Be (ng (ni (hi.imp ?_)))
  rintro _ s1 ⟨F1, l, rfl, y⟩
  refine ⟨xs, some l, g, by simp only [Bi, An y]; rfl, szl _ (by omega), hk, fun s' F => Ft (An y) F, fun d hd s' F => hb d hd s', ?_⟩
  intro s2 F2 y2
  rw [hg] at y2
  have H2 := (H.frs F1).new F2 y2
  exact w_var rfl ⟨o, fs, rfl, H2.at_, hf, by rw [hp]; exact bh (q _ _ (H2.setf _))⟩
theorem sx {l i a : Nat} {xs : List Str} {kvs : List (D × D)} {k : D} {f : Str} {r : Ss} {x : Option D} {Q : Fl → Sto → Prop} (hv : bw (Bs o l1 l2 l3 l4 l5 x) i = some (.loc l)) (H : Hp o fs ((a, .dct kvs) :: kn) st s) (hl : st[l]? = some (.lst (xs.map D.str))) (ho : l ≠ o) (hf : fs.lookup f = some (.loc a)) (hz : xs.length ≤ 1000) (hz2 : kvs.length ≤ 1000)
    (hn : ((kvs.map (·.1)) ++ xs.map D.str).Nodup)
    (q : ∀ s', Hp o fs ((a, .dct (kvs ++ xs.map fun x => (.str x, k))) :: kn) st s' → Wr (ag tab (C FF n) FF r (Bs o l1 l2 l3 l4 l5 x) s') Q) : Wr (ag tab (C FF n) FF (.cons (.ex (.mt .upd (.fld 8 (.var 0) f) (.cons (.dcomp 0 true 1 [0] [] (.var i) .nil (.var 0) (.cst k)) .nil))) r) (Bs o l1 l2 l3 l4 l5 x) s) Q := by
  have ha := H.has _ List.mem_cons_self
  refine Be (rn (Rj (w_fld (w_var rfl ⟨o, fs, .loc a, rfl, H.at_, hf, acp ha, Ea (ni (w_var hv ⟨xs.map D.str, some l, fun d => some (d, k), by simp only [Bi, An (H.old hl ho)]; rfl, szl _ (by simp; omega), ?_, fun s' F => Ft (An (H.old hl ho)) F, ?_, ?_⟩))⟩))))
  · intro d hd k y e
    obtain ⟨x, hx, rfl⟩ := List.mem_map.mp hd
    cases e; rfl
  · intro d hd s' _
    refine jy rfl ?_
    repeat infer_instance
    exact ⟨rfl, .refl _⟩
  · intro s2 F2 y2
    have e1 : (xs.map D.str).filterMap (fun d => some (d, k)) = xs.map fun x => (D.str x, k) := by rw [Di, List.map_map]; rfl
    have hn2 : ((xs.map fun x => (D.str x, k)).map (·.1)).Nodup := by
      rw [List.map_map]
      rw [List.nodup_append] at hn
      exact hn.2.1
    rw [e1, Hd (kvs := []) hn2, List.nil_append] at y2
    have hlt : a < s.length := (List.getElem?_eq_some_iff.mp ha).1
    have hn3 : ((kvs ++ xs.map fun x => (D.str x, k)).map (·.1)).Nodup := by
      rw [List.map_append, List.map_map]; exact hn
    refine dw (acm (F2.at ha) y2 ⟨by omega, szl _ (by simp; omega)⟩ (bh ?_))
    rw [Hd hn3]
    exact q _ (H.frs F2).setc
theorem afj {xx : Option D} (hV : VOk V) (A : Args st V o l1 l2 l3 l4 l5) (H : Hp o [] [] st s) : Wr (ag tab (C FF (n + 4)) FF Sw (Bs o l1 l2 l3 l4 l5 xx) s) fun f s' => (∃ e, f = .next e) ∧ (∃ fs kn, Hp o fs kn st s') ∧ aff s' o st.length V := by
 have hlen := afd hV
 unfold Sw gy
 simp only
 refine set_list rfl H A.h1 A.n1 (of_decide_eq_true rfl) (fun _ => rfl) fun s1 a1 H1 => ?_
 refine set_list rfl H1 A.h2 A.n2 (of_decide_eq_true rfl) (fun _ => rfl) fun s2 a2 H2 => ?_
 refine set_list rfl H2 A.h3 A.n3 (of_decide_eq_true rfl) (fun _ => rfl) fun s3 a3 H3 => ?_
 refine set_list rfl H3 A.h4 A.n4 (of_decide_eq_true rfl) (fun _ => rfl) fun s4 a4 H4 => ?_
 refine set_list rfl H4 A.h5 A.n5 (of_decide_eq_true rfl) (fun _ => rfl) fun s5 a5 H5 => ?_
 refine set_dict (kvs := V.ws.map Lb) (g := fun d => match d with | .tup [a, b, c] => some (a, .tup [b, c]) | _ => none) H5 (of_decide_eq_true rfl) (fun _ => rfl) (w_var rfl ⟨.refl _, _, rfl, H5.old A.h2 A.n2⟩) (by simp; omega) ?_ ?_ ?_ fun s6 a6 H6 => ?_
 · intro d hd k y e
   obtain ⟨w, hw, rfl⟩ := List.mem_map.mp hd
   cases e; rfl
 · intro d hd s'
   obtain ⟨w, hw, rfl⟩ := List.mem_map.mp hd
   refine jy rfl ?_
   repeat infer_instance
   exact ⟨rfl, .refl _⟩
 · rw [List.filterMap_map]
   show cu [] (V.ws.filterMap fun w => some (Lb w)) = _
   rw [Di]
   refine Hd ?_
   have := Iy (afg hV)
   rw [List.nil_append, List.map_map]
   rw [List.map_map] at this
   exact this
 refine set_dict (kvs := V.fs.map Ld) (g := fun d => match d with | .tup [a, b, c] => some (a, .tup [b, c]) | _ => none) H6 (of_decide_eq_true rfl) (fun _ => rfl) (w_var rfl ⟨.refl _, _, rfl, H6.old A.h4 A.n4⟩) (by simp; omega) ?_ ?_ ?_ fun s7 a7 H7 => ?_
 · intro d hd k y e
   obtain ⟨w, hw, rfl⟩ := List.mem_map.mp hd
   cases e; rfl
 · intro d hd s'
   obtain ⟨w, hw, rfl⟩ := List.mem_map.mp hd
   refine jy rfl ?_
   repeat infer_instance
   exact ⟨rfl, .refl _⟩
 · rw [List.filterMap_map]
   show cu [] (V.fs.filterMap fun w => some (Ld w)) = _
   rw [Di]
   refine Hd ?_
   have := Iy (afh hV)
   rw [List.nil_append, List.map_map]
   rw [List.map_map] at this
   exact this
 have nd1 := afi hV
 have nd2 : (V.nums ++ V.ws.map (·.1) ++ V.things).Nodup := nd1.sublist (List.sublist_append_left _ _)
 have nd3 : (V.nums ++ V.ws.map (·.1)).Nodup := nd2.sublist (List.sublist_append_left _ _)
 refine set_dict (xs := (V.nums ++ V.ws.map (·.1)).map D.str) (kvs := (V.nums ++ V.ws.map (·.1)).map (unk "num")) (g := fun d => some (d, W "num")) H7 (of_decide_eq_true rfl) (fun _ => rfl) ?_ (by simp; omega) ?_ ?_ ?_ fun s8 a8 H8 => ?_
 · repeat infer_instance
   refine (Sv (n := n + 3) (An (H7.old A.h2 A.n2)) (by omega)).imp ?_
   rintro _ s9 ⟨rfl, F9, y9⟩
   refine Bl (F9.at (H7.old A.h1 A.n1)) y9 (szl _ (by simp; omega)) ⟨F9.trans (.app _), _, rfl, gg0.trans ?_⟩
   simp
 · intro d hd k y e
   obtain ⟨x, hx, rfl⟩ := List.mem_map.mp hd
   cases e; rfl
 · intro d hd s'
   obtain ⟨x, hx, rfl⟩ := List.mem_map.mp hd
   refine jy rfl ?_
   repeat infer_instance
   exact ⟨rfl, .refl _⟩
 · rw [List.filterMap_map]
   show cu [] ((V.nums ++ V.ws.map (·.1)).filterMap fun w => some (unk "num" w)) = _
   rw [Di]
   refine Hd ?_
   have := Iy nd3
   rw [List.nil_append, List.map_map]
   exact this
 have keys : ∀ (xs : List Str) (k : D), ((xs.map fun x => (D.str x, k)).map (·.1)) = xs.map D.str := fun xs k => by rw [List.map_map]; rfl
 refine sx (xs := V.things) rfl H8 A.h3 A.n3 rfl (by omega) (by simp; omega) ?_ fun s9 H9 => ?_
 · rw [keys, ← List.map_append]; exact Iy nd2
 refine sx (xs := V.arrs) rfl H9 A.h5 A.n5 rfl (by omega) (by simp; omega) ?_ fun s10 H10 => ?_
 · rw [List.map_append, keys, keys, ← List.map_append, ← List.map_append]; exact Iy nd1
 refine Ez ⟨⟨_, rfl⟩, ⟨_, _, H10⟩, a1, a2, a3, a4, a5, a6, a7, a8, H10.at_, ?_, ?_, ?_, ?_, ?_, ?_, ?_, ?_, ?_⟩
 · exact ⟨H10.ge (a1, .lst (V.nums.map D.str)) (by simp), H10.ge (a2, .lst (V.ws.map Aw)) (by simp), H10.ge (a3, .lst (V.things.map D.str)) (by simp), H10.ge (a4, .lst (V.fs.map Bp)) (by simp), H10.ge (a5, .lst (V.arrs.map D.str)) (by simp), H10.ge (a6, .dct (V.ws.map Lb)) (by simp), H10.ge (a7, .dct (V.fs.map Ld)) (by simp), H10.ge _ List.mem_cons_self⟩
 · exact H10.has (a1, _) (by simp)
 · exact H10.has (a2, _) (by simp)
 · exact H10.has (a3, _) (by simp)
 · exact H10.has (a4, _) (by simp)
 · exact H10.has (a5, _) (by simp)
 · exact H10.has (a6, _) (by simp)
 · exact H10.has (a7, _) (by simp)
 · have := H10.has _ List.mem_cons_self
   rw [this]
   unfold Vals.unks
   simp
end
section
variable {FF n : Nat} {st s : Sto}
theorem iz {m j : Nat} {d : D} (h : (Br 0 m)[j]? = some d) : d = .int j ∧ j < m := by
 unfold Br at h
 rw [List.getElem?_map] at h
 cases e : (List.range m)[j]? with
 | none => rw [e] at h; cases h
 | some k =>
  rw [e] at h
  have hj : j < m := by
   have := (List.getElem?_eq_some_iff.mp e).1
   simpa using this
  rw [List.getElem?_range hj] at e
  cases e
  cases h
  exact ⟨by simp, hj⟩
theorem Le {m : Nat} : (Br 0 m).length = m := by simp [Br]
def Lf (ns : List Int) (k : Int) : Int := (ns[k.toNat]?).getD 0
theorem lg {q : Nat} {ns : List Int} {k : Int} (h : af s q = some (ns.map D.int)) (hk : 0 ≤ k) : Wr (C FF (n + 1) 22 [.loc q, .int k] s) fun d s' => d = .int (Lf ns k) ∧ s' = s := by
 refine Ce [some (.loc q), some (.int k)] (b := Kj) rfl rfl (by decide) rfl ?_
 unfold Kj Lf
 repeat infer_instance
 refine Jz h ?_
 repeat infer_instance
 refine ⟨_, rfl, fun g => ?_, fun g => ?_⟩
 · have g := of_decide_eq_true g
   rw [List.length_map] at g
   repeat infer_instance
   have hl : k.toNat < ns.length := by omega
   refine ar (d := .int (ns[k.toNat]'hl)) h ?_ ⟨?_, rfl⟩
   · unfold L2.atI L2.ixN
     rw [if_pos hk, if_pos (by rw [List.length_map]; exact g), Option.bind_some, List.getElem?_map, List.getElem?_eq_getElem hl]
     rfl
   · rw [List.getElem?_eq_getElem hl]; rfl
 · have g := of_decide_eq_false g
   rw [List.length_map] at g
   repeat infer_instance
   refine ⟨?_, rfl⟩
   rw [List.getElem?_eq_none (by omega)]
   rfl
end
section
variable {FF n : Nat} {st s : Sto}
def ltr (m : Int) : Nat := 97 + (m.fmod 26).toNat
theorem afk : ∀ k : Fin 26, ABC.cps.toList[k.val]? = some (97 + k.val) := by decide +kernel
theorem Lg (m : Int) : 0 ≤ m.fmod 26 ∧ m.fmod 26 < 26 := ⟨Int.fmod_nonneg_of_pos _ (by decide), Int.fmod_lt_of_pos _ (by decide)⟩
theorem afl : ABC.cps.toList.length = 26 := by decide +kernel
theorem afm {Q : D → Sto → Prop} {m : Int} (q : Q (.str ⟨#[ltr m]⟩) s) : Wr (ixD (.str ABC) (.int (m.fmod 26)) s) Q := by
 obtain ⟨h1, h2⟩ := Lg m
 refine ⟨_, _, ?_, q⟩
 have e : L2.atI ABC.cps.toList (m.fmod 26) = some (ltr m) := by
  unfold L2.atI L2.ixN
  rw [if_pos h1, if_pos (by rw [afl]; exact h2), Option.bind_some]
  exact afk ⟨(m.fmod 26).toNat, by omega⟩
 have hl : ABC.length ≤ sizeLine := szl _ (by decide +kernel)
 simp only [ixD, ixS, Cn, e, hl, if_true]
def wordOf (f : Nat → Int) (j : Nat) : Str := ⟨((List.range j).map fun i => ltr (f i)).toArray⟩
theorem afn {f : Nat → Int} {j : Nat} : wordOf f j ++ ⟨#[ltr (f j)]⟩ = wordOf f (j + 1) := by
 show Str.append _ _ = _
 unfold wordOf Str.append
 simp [List.range_succ]
theorem Nx {f : Nat → Int} {j : Nat} : (wordOf f j).length = j := by simp [wordOf, Str.length]
theorem afo {f : Nat → Int} {j : Nat} (h1 : 1 ≤ j) (h8 : j ≤ 8) : Nm (wordOf f j) := by
 refine ⟨by rw [Nx]; exact h1, by rw [Nx]; exact h8, ?_⟩
 intro c hc
 have : c ∈ (List.range j).map fun i => ltr (f i) := by simpa [wordOf] using hc
 obtain ⟨i, _, rfl⟩ := List.mem_map.mp this
 obtain ⟨h1, h2⟩ := Lg (f i)
 exact ⟨⟨(f i).fmod 26 |>.toNat, by omega⟩, rfl⟩
theorem afp {f g : Nat → Int} {j i : Nat} (hi : i < j) (h : (f i).fmod 26 ≠ (g i).fmod 26) : wordOf f j ≠ wordOf g j := by
 intro e
 have e : ((List.range j).map fun i => ltr (f i)) = ((List.range j).map fun i => ltr (g i)) := by
  unfold wordOf at e
  injection e with e
  simpa using e
 have := congrArg (fun l => l[i]?) e
 simp only [List.getElem?_map, List.getElem?_range hi, Option.map_some] at this
 have e2 : ltr (f i) = ltr (g i) := by injection this
 unfold ltr at e2
 have a := Lg (f i)
 have b := Lg (g i)
 omega
def sgn (c : Int) (k j : Nat) : Int := c.fdiv 6720 + (j : Int) * (1 + c.fmod 25) + (k : Int) * (if decide ((j : Int) = ((c.fdiv 8).fmod 840).fmod (1 + c.fmod 8)) = true then 1 else 0)
def size (c : Int) : Nat := (1 + c.fmod 8).toNat
def nameOf (c : Int) (k : Nat) : Str := wordOf (sgn c k) (size c)
theorem size_le (c : Int) : 1 ≤ size c ∧ size c ≤ 8 ∧ ((size c : Nat) : Int) = 1 + c.fmod 8 := by
 have h1 : 0 ≤ c.fmod 8 := Int.fmod_nonneg_of_pos _ (by decide)
 have h2 : c.fmod 8 < 8 := Int.fmod_lt_of_pos _ (by decide)
 unfold size
 omega
theorem cw (c : Int) (k : Nat) : Nm (nameOf c k) := afo (size_le c).1 (size_le c).2.1
theorem afq (c : Int) {k m : Nat} (h : k < m) (hm : m < 26) : nameOf c k ≠ nameOf c m := by
 have hs := size_le c
 have h1 : 0 ≤ ((c.fdiv 8).fmod 840).fmod (1 + c.fmod 8) := Int.fmod_nonneg_of_pos _ (by omega)
 have h2 : ((c.fdiv 8).fmod 840).fmod (1 + c.fmod 8) < 1 + c.fmod 8 := Int.fmod_lt_of_pos _ (by omega)
 have hi : ((((c.fdiv 8).fmod 840).fmod (1 + c.fmod 8)).toNat : Int) = ((c.fdiv 8).fmod 840).fmod (1 + c.fmod 8) := Int.toNat_of_nonneg h1
 refine afp (i := (((c.fdiv 8).fmod 840).fmod (1 + c.fmod 8)).toNat) (by omega) ?_
 unfold sgn
 rw [hi]
 simp only [decide_true, if_true, Int.mul_one]
 intro e
 generalize c.fdiv 6720 + ((c.fdiv 8).fmod 840).fmod (1 + c.fmod 8) * (1 + c.fmod 25) = z at e
 rw [Int.fmod_eq_emod_of_nonneg (b := 26) (z + k) (by decide), Int.fmod_eq_emod_of_nonneg (b := 26) (z + m) (by decide)] at e
 omega
def names26 (c : Int) : List Str := (List.range 26).map (nameOf c)
theorem afr (c : Int) : (names26 c).Nodup := by
 unfold names26
 rw [List.nodup_iff_pairwise_ne, List.pairwise_map]
 refine List.Pairwise.imp_of_mem (R := fun a b => a < b) ?_ List.pairwise_lt_range
 intro a b ha hb hab
 exact afq c hab (by simpa using hb)
theorem Sx (c : Int) : ∀ x ∈ names26 c, Nm x := by
 intro x hx
 obtain ⟨k, _, rfl⟩ := List.mem_map.mp hx
 exact cw c k
end
section
variable {FF n : Nat} {st s : Sto}
theorem Ak {c : Int} {m : Int} (h : 0 < m) : 0 ≤ c.fmod m ∧ c.fmod m < m := ⟨Int.fmod_nonneg_of_pos _ h, Int.fmod_lt_of_pos _ h⟩
theorem afs {f : Nat → Int} : Str.ofString "" = wordOf f 0 := by
 have h : Str.ofString "" = ⟨#[]⟩ := by decide +kernel
 rw [h]
 unfold wordOf
 simp
abbrev sy (c : Int) (ln : Nat) (a b d e : Option D) : DD.Env := [some (.int c), some (.int 26), some (.str ABC), some (.int (1 + c.fmod 8)), some (.int (((c.fdiv 8).fmod 840).fmod (1 + c.fmod 8))), some (.loc ln), a, b, d, e]
theorem aft (c : Int) : Wr (C FF (n + 1) 23 [.int c, .int 26] s) fun d s' => d = .loc s.length ∧ Fr s s' ∧ s'[s.length]? = some (.lst ((names26 c).map D.str)) := by
 refine Ce [some (.int c), some (.int 26), none, none, none, none, none, none, none, none] (b := Kk) rfl rfl (by decide) rfl ?_
 unfold Kk
 have h8 := Ak (c := c) (m := 8) (by decide)
 have h25 := Ak (c := c) (m := 25) (by decide)
 have hsz := size_le c
 repeat infer_instance
 refine gg (by omega) ?_
 repeat infer_instance
 refine ⟨Br 0 26, rfl, ?_⟩
 refine Jx (fun i env s' => Fr s s' ∧ s'[s.length]? = some (.lst ((List.range i).map fun k => D.str (nameOf c k))) ∧ ∃ a b d e, env = sy c s.length a b d e) (fun _ _ _ _ => rfl) ⟨.app _, gg0.trans rfl, none, none, none, none, rfl⟩ ?_ ?_
 · rintro k d hd env s1 ⟨F, y, a, b, e, g, rfl⟩
   obtain ⟨rfl, hk⟩ := iz hd
   refine jx rfl ?_
   repeat infer_instance
   refine ⟨Br 0 (size c), ?_, ?_⟩
   · unfold Dt size
     simp only
     rw [if_pos (by omega)]
   refine Jx (fun j env s' => s' = s1 ∧ ∃ d e, env = sy c s.length (some (.int k)) (some (.str (wordOf (sgn c k) j))) d e) (fun _ _ _ _ => rfl) ⟨rfl, _, _, by rw [← afs]; rfl⟩ ?_ ?_
   · rintro j d hd env s2 ⟨rfl, d2, e2, rfl⟩
     obtain ⟨rfl, hj⟩ := iz hd
     refine jx rfl ?_
     repeat infer_instance
     refine Ni (.inr (.inl ⟨by omega, by omega⟩)) ?_
     repeat infer_instance
     refine Ni (.inr (.inl ⟨by split <;> omega, by split <;> omega⟩)) ?_
     repeat infer_instance
     refine afm ?_
     refine abu (szl _ ?_) ?_
     · rw [Nx]
       show j + 1 ≤ _
       omega
     repeat infer_instance
     refine ⟨_, rfl, rfl, some (.int j), some (.int (sgn c k j)), ?_⟩
     rw [← afn]
     rfl
   · rintro env s2 ⟨rfl, d2, e2, rfl⟩
     rw [Le]
     repeat infer_instance
     refine ⟨aco y, ?_⟩
     repeat infer_instance
     refine ack y (Nat.lt_of_lt_of_le (m := 1000) (by simp; omega) (szl _ (by decide))) ?_
     repeat infer_instance
     refine ⟨_, rfl, F.set (Nat.le_refl _) _, ?_, _, _, _, _, rfl⟩
     rw [Dz y, List.range_succ, List.map_append]
     rfl
 · rintro env s1 ⟨F, y, a, b, e, g, rfl⟩
   rw [Le] at y
   repeat infer_instance
   refine ⟨rfl, F, ?_⟩
   rw [y]
   unfold names26
   rw [List.map_map]
   rfl
end
section
variable {FF n : Nat} {st s : Sto}
def El (st : Sto) : Nat → D → Prop
 | _, .str x => x.length ≤ 1000 ∧ ∀ c ∈ x.cps.toList, c < 123
 | _, .loc n => ∃ t, Bn st (.loc n) = some (.b t) ∧ (t = "list" ∨ t = "dict")
 | k + 1, .tup ds => ds.length ≤ 1000 ∧ ∀ e ∈ ds, El st k e
 | 0, .tup _ => False
 | _, _ => True
theorem El.str {k : Nat} {x : Str} (h : El st k (.str x)) : x.length ≤ 1000 ∧ ∀ c ∈ x.cps.toList, c < 123 := by cases k <;> simpa [El] using h
theorem El.loc {k m : Nat} (h : El st k (.loc m)) : ∃ t, Bn st (.loc m) = some (.b t) ∧ (t = "list" ∨ t = "dict") := by cases k <;> simpa [El] using h
theorem El.tup {k : Nat} {ds : List D} (h : El st (k + 1) (.tup ds)) : ds.length ≤ 1000 ∧ ∀ e ∈ ds, El st k e := by simpa [El] using h
theorem El.mono : ∀ {k : Nat} {d : D} {s s' : Sto}, Fr s s' → El s k d → El s' k d
 | k, .str x, s, s', F, h => by cases k <;> simpa [El] using h
 | k, .non, s, s', F, h => by cases k <;> simp [El]
 | k, .bl b, s, s', F, h => by cases k <;> simp [El]
 | k, .int b, s, s', F, h => by cases k <;> simp [El]
 | k, .loc m, s, s', F, h => by
  obtain ⟨t, e, ht⟩ := h.loc
  have : Bn s' (.loc m) = some (.b t) := by
   simp only [Bn] at e ⊢
   cases z : s[m]? with
   | none => rw [z] at e; cases e
   | some c => rw [F.at z]; rw [z] at e; exact e
  cases k <;> (simp only [El]; exact ⟨t, this, ht⟩)
 | 0, .tup ds, s, s', F, h => by simp [El] at h
 | k + 1, .tup ds, s, s', F, h => by
  obtain ⟨h1, h2⟩ := h.tup
  simp only [El]
  exact ⟨h1, fun e he => El.mono F (h2 e he)⟩
def isStr : D → Bool
 | .str _ => true
 | _ => false
def isTup : D → Bool
 | .tup _ => true
 | _ => false
def isInt : D → Bool
 | .int _ => true
 | _ => false
theorem lh {k : Nat} {d : D} {c : String} (h : El st k d) (hc : c = "str" ∨ c = "tuple") : ∃ u, Bn st d = some u ∧ cg tab u (.b c) = some (if c = "str" then isStr d else isTup d) := by
 cases d with
 | loc m =>
  obtain ⟨t, e, ht⟩ := h.loc
  refine ⟨_, e, ?_⟩
  rcases ht with rfl | rfl <;> rcases hc with rfl | rfl <;> simp [isStr, isTup, cg, subB]
 | _ => exact ⟨_, rfl, by rcases hc with rfl | rfl <;> simp [isStr, isTup, cg, subB]⟩
theorem afu : ∀ c : Fin 123, (!(Builtin.Str.occurrences ABC ⟨#[c.val]⟩ 0 ABC.length 1).isEmpty) = (decide (97 ≤ c.val) && decide (c.val ≤ 122)) := by decide +kernel
def Fc (c : Nat) : Bool := decide (97 ≤ c) && decide (c ≤ 122)
def Bf : D → Bool
 | .str x => decide (1 ≤ x.length) && decide (x.length ≤ 8) && x.cps.toList.all Fc
 | _ => false
theorem Sy {k : Nat} {d : D} (h : El st k d) : Wr (C FF (n + 1) 2 [d] st) fun r s => r = .bl (Bf d) ∧ Fr st s := by
 refine Ce [some d] (b := ke) rfl rfl (by decide) rfl ?_
 unfold ke
 obtain ⟨u, e1, e2⟩ := lh (c := "str") h (.inl rfl)
 rw [if_pos rfl] at e2
 repeat infer_instance
 refine ⟨u, isStr d, e1, e2, ?_⟩
 cases d with
 | str x =>
  obtain ⟨h1, h2⟩ := h.str
  refine Jy ?_
  repeat infer_instance
  refine acf (szl _ (by omega)) ?_
  repeat infer_instance
  refine ⟨_, rfl, fun g => ?_, fun g => ?_⟩
  · have g := of_decide_eq_true g
    repeat infer_instance
    refine ⟨_, rfl, ?_⟩
    by_cases g2 : (x.length : Int) ≤ 8
    · rw [decide_eq_true g2]
      refine Jy ?_
      repeat infer_instance
      refine ⟨x.cps.toList.map (fun c => D.str ⟨#[c]⟩), none, fun d => match d with | .str y => some (.bl (Fc ((y.cps[0]?).getD 0))) | _ => none, by simp only [Bi]; rw [if_pos (szl _ (by omega))], szl _ (by simp [Str.length] at h1; simp; omega), fun _ _ => rfl, ?_, ?_⟩
      · intro d hd s' F
        obtain ⟨c, hc, rfl⟩ := List.mem_map.mp hd
        refine Fv rfl ?_
        repeat infer_instance
        refine rj (a := .bl (Fc c)) (s := s') ?_ ⟨?_, .refl _⟩
        · have := afu ⟨c, h2 c hc⟩
          unfold ABC at this
          simp only [cmD, inD, this]
          rfl
        · simp
      · intro s' F y
        have e3 : (x.cps.toList.map (fun c => D.str ⟨#[c]⟩)).filterMap (fun d => match d with | .str y => some (D.bl (Fc ((y.cps[0]?).getD 0))) | _ => none) = x.cps.toList.map fun c => D.bl (Fc c) := by
         rw [List.filterMap_map]
         show x.cps.toList.filterMap (fun c => some (D.bl (Fc c))) = _
         rw [Di]
        rw [e3] at y
        repeat infer_instance
        refine ka (An y) (Im Fc _) ?_
        repeat infer_instance
        refine ⟨?_, F⟩
        have a1 : decide (1 ≤ x.length) = true := decide_eq_true (by omega)
        have a2 : decide (x.length ≤ 8) = true := decide_eq_true (by omega)
        simp only [Bf, a1, a2, Bool.true_and]
        rw [List.all_map]
        rfl
    · rw [decide_eq_false g2]
      refine jz ?_
      repeat infer_instance
      refine ⟨?_, .refl _⟩
      have : decide (x.length ≤ 8) = false := decide_eq_false (by omega)
      simp [Bf, this]
  · have g := of_decide_eq_false g
    repeat infer_instance
    refine ⟨?_, .refl _⟩
    have : decide (1 ≤ x.length) = false := decide_eq_false (by omega)
    simp [Bf, this]
 | _ =>
  refine jz (ck ?_)
  repeat infer_instance
  exact ⟨rfl, .refl _⟩
end
section
variable {FF n : Nat} {st s : Sto}
def Fw : D → Bool
 | .tup [a, _, _] => Bf a
 | _ => false
theorem afv (ds : List D) : ds.length = 3 ↔ ∃ a b c, ds = [a, b, c] := by
 constructor
 · intro h
   match ds, h with
   | [a, b, c], _ => exact ⟨a, b, c, rfl⟩
 · rintro ⟨a, b, c, rfl⟩; rfl
theorem Sz {k : Nat} {d : D} (h : El st (k + 1) d) : Wr (C FF (n + 2) 3 [d] st) fun r s => r = .bl (Fw d) ∧ Fr st s := by
 refine Ce [some d] (b := Ke) rfl rfl (by decide) rfl ?_
 unfold Ke
 obtain ⟨u, e1, e2⟩ := lh (c := "tuple") h (.inr rfl)
 rw [if_neg (by decide)] at e2
 repeat infer_instance
 refine ⟨u, isTup d, e1, e2, ?_⟩
 cases d with
 | tup ds =>
  obtain ⟨h1, h2⟩ := h.tup
  refine ⟨_, rfl, ck ?_⟩
  repeat infer_instance
  by_cases g : ds.length = 3
  · obtain ⟨a, b, c, rfl⟩ := (afv ds).mp g
    refine ⟨_, rfl, ck ?_⟩
    repeat infer_instance
    refine Dw rfl ?_
    repeat infer_instance
    refine (Sy (h2 a (by simp))).imp ?_
    rintro _ s1 ⟨rfl, F⟩
    exact ⟨rfl, F⟩
  · have g2 : ¬ (ds.length : Int) = 3 := by omega
    rw [decide_eq_false g2]
    refine ⟨_, rfl, Dv ?_⟩
    refine ⟨?_, .refl _⟩
    unfold Fw
    split
    · rename_i heq
      injection heq with heq
      subst heq
      exact absurd rfl g
    · rfl
 | _ => exact ⟨_, rfl, Dv ⟨rfl, .refl _⟩⟩
theorem Ta {k : Nat} {d : D} (h : El st k d) : Wr (C FF (n + 1) 1 [d] st) fun r s => r = .bl (isInt d) ∧ s = st := by
 refine Ce [some d] (b := kc) rfl rfl (by decide) rfl ?_
 unfold kc
 have key : ∃ u b1 b2, Bn st d = some u ∧ cg tab u (.b "int") = some b1 ∧ cg tab u (.b "bool") = some b2 ∧ (b1 && !b2) = isInt d := by
  cases d with
  | loc m =>
   obtain ⟨t, e, ht⟩ := h.loc
   rcases ht with rfl | rfl <;> exact ⟨_, _, _, e, rfl, rfl, rfl⟩
  | _ => exact ⟨_, _, _, rfl, rfl, rfl, rfl⟩
 obtain ⟨u, b1, b2, e1, e2, e3, e4⟩ := key
 repeat infer_instance
 refine ⟨u, b1, e1, e2, b1, rfl, fun g => ?_, fun g => ?_⟩
 · subst g
   repeat infer_instance
   refine ⟨u, b2, e1, e3, b2, rfl, ?_, rfl⟩
   rw [← e4]; rfl
 · subst g
   exact ⟨by rw [← e4]; rfl, rfl⟩
def bq : D → Bool
 | .tup [a, .int lo, .int hi] => Bf a && (decide (lo ≤ hi) && decide (hi ≤ lo + 60))
 | _ => false
theorem afw {k : Nat} {d : D} (h : El st (k + 1) d) : Wr (C FF (n + 3) 6 [d] st) fun r s => r = .bl (bq d) ∧ Fr st s := by
 refine Ce [some d] (b := Kg) rfl rfl (by decide) rfl ?_
 unfold Kg
 repeat infer_instance
 refine (Sz h).imp ?_
 rintro _ s1 ⟨rfl, F1⟩
 refine ⟨_, rfl, fun g => ?_, fun g => ?_⟩
 · refine ck ?_
   repeat infer_instance
   refine ⟨?_, F1⟩
   have g : Fw d = false := by simpa using g
   unfold bq
   split
   · have : Bf _ = false := g
     rw [this]; rfl
   · rfl
 · have g : Fw d = true := by simpa using g
   obtain ⟨a, b, c, rfl⟩ : ∃ a b c, d = .tup [a, b, c] := by
    unfold Fw at g
    split at g
    · exact ⟨_, _, _, rfl⟩
    · cases g
   have ga : Bf a = true := g
   obtain ⟨_, h2⟩ := h.tup
   have hb := (h2 b (by simp)).mono F1
   have hc := (h2 c (by simp)).mono F1
   repeat infer_instance
   refine Dw rfl ?_
   repeat infer_instance
   refine (Ta (n := n + 1) hb).imp ?_
   rintro y0 z0 ⟨hy0, hz0⟩; rw [hy0, hz0]; clear hy0 hz0 y0 z0
   refine ⟨_, rfl, fun g => ?_, fun g => ?_⟩
   · refine ck ?_
     repeat infer_instance
     refine ⟨?_, F1⟩
     have g : isInt b = false := by simpa using g
     unfold bq
     split
     · rename_i heq
       simp at heq
       obtain ⟨_, rfl, _⟩ := heq
       cases g
     · rfl
   · have g : isInt b = true := by simpa using g
     obtain ⟨lo, rfl⟩ : ∃ lo, b = .int lo := by cases b <;> first | exact ⟨_, rfl⟩ | cases g
     repeat infer_instance
     refine Dw rfl ?_
     repeat infer_instance
     refine (Ta (n := n + 1) hc).imp ?_
     rintro y0 z0 ⟨hy0, hz0⟩; rw [hy0, hz0]; clear hy0 hz0 y0 z0
     refine ⟨_, rfl, fun g => ?_, fun g => ?_⟩
     · repeat infer_instance
       refine ⟨?_, F1⟩
       have g : isInt c = false := by simpa using g
       unfold bq
       split
       · rename_i heq
         simp at heq
         obtain ⟨_, _, rfl⟩ := heq
         cases g
       · rfl
     · have g : isInt c = true := by simpa using g
       obtain ⟨hi, rfl⟩ : ∃ hi, c = .int hi := by cases c <;> first | exact ⟨_, rfl⟩ | cases g
       repeat infer_instance
       refine Dw rfl ?_
       repeat infer_instance
       refine Dw rfl ?_
       repeat infer_instance
       refine ⟨_, rfl, fun g => ?_, fun g => ?_⟩
       · have g := of_decide_eq_true g
         repeat infer_instance
         refine Dw rfl ?_
         repeat infer_instance
         refine ⟨?_, F1⟩
         simp only [bq, ga, decide_eq_true g, Bool.true_and]
       · have g := of_decide_eq_false g
         refine ⟨?_, F1⟩
         simp only [bq, decide_eq_false g, Bool.false_and, Bool.and_false]
end
section
variable {FF n : Nat} {st s : Sto}
def kindB (d : D) : Bool := decide (d = W "num" ∨ d = W "thing")
theorem Lh {k m : Nat} {x : Str} (h : El st k (.str x)) : okN m (.str x) = true := by
 have : PyData.canLay0 (.str x) = true := by
  simp only [PyData.canLay0, PySem.PyData.strOk]
  rw [Array.all_eq_true']
  intro c hc
  have := h.str.2 c (by simpa using hc)
  simp
  omega
 cases m <;> simpa [okN] using this
theorem Tb {k : Nat} {d : D} (h : El st k d) : Wr (C FF (n + 1) 4 [d] st) fun r s => r = .bl (kindB d) ∧ s = st := by
 refine Ce [some d] (b := kf) rfl rfl (by decide) rfl ?_
 unfold kf
 obtain ⟨u, e1, e2⟩ := lh (c := "str") h (.inl rfl)
 rw [if_pos rfl] at e2
 repeat infer_instance
 refine ⟨u, isStr d, e1, e2, ?_⟩
 have n1 : okN 40 (W "num") = true := by have := Sq; simpa [okN] using this
 have n2 : okN 40 (W "thing") = true := by have := sr; simpa [okN] using this
 cases d with
 | str x =>
  refine ⟨_, rfl, ck ?_⟩
  repeat infer_instance
  refine acd (Lh h) (by simp only [List.all_cons, n1, n2, List.all_nil, Bool.and_self]) ⟨?_, rfl⟩
  unfold kindB
  simp
 | _ => exact ⟨_, rfl, Dv ⟨by simp [kindB], rfl⟩⟩
def Bb : D → Bool
 | .tup [a, .tup ks, c] => Bf a && kindB c && (decide (1 ≤ ks.length) && decide (ks.length ≤ 3) && ks.all kindB)
 | _ => false
theorem afx {k : Nat} {d : D} (h : El st (k + 2) d) : Wr (C FF (n + 3) 7 [d] st) fun r s => r = .bl (Bb d) ∧ Fr st s := by
 refine Ce [some d] (b := kh) rfl rfl (by decide) rfl ?_
 unfold kh
 repeat infer_instance
 refine (Sz h).imp ?_
 rintro _ s1 ⟨rfl, F1⟩
 refine ⟨_, rfl, fun g => ?_, fun g => ?_⟩
 · refine ck ?_
   repeat infer_instance
   refine ⟨?_, F1⟩
   have g : Fw d = false := by simpa using g
   unfold Bb
   split
   · have : Bf _ = false := g
     rw [this]; rfl
   · rfl
 · have g : Fw d = true := by simpa using g
   obtain ⟨a, b, c, rfl⟩ : ∃ a b c, d = .tup [a, b, c] := by
    unfold Fw at g
    split at g
    · exact ⟨_, _, _, rfl⟩
    · cases g
   have ga : Bf a = true := g
   obtain ⟨_, h2⟩ := h.tup
   have hb := (h2 b (by simp)).mono F1
   have hc := (h2 c (by simp)).mono F1
   repeat infer_instance
   refine Dw rfl ?_
   obtain ⟨u, e1, e2⟩ := lh (c := "tuple") hb (.inr rfl)
   rw [if_neg (by decide)] at e2
   refine ⟨u, isTup b, e1, e2, fun g => ?_, fun g => ?_⟩
   · refine ck ?_
     repeat infer_instance
     refine ⟨?_, F1⟩
     have g : isTup b = false := by simpa using g
     unfold Bb
     split
     · rename_i heq
       simp at heq
       obtain ⟨_, rfl, _⟩ := heq
       cases g
     · rfl
   · have g : isTup b = true := by simpa using g
     obtain ⟨ks, rfl⟩ : ∃ ks, b = .tup ks := by cases b <;> first | exact ⟨_, rfl⟩ | cases g
     obtain ⟨hk1, hk2⟩ := hb.tup
     repeat infer_instance
     refine Dw rfl ?_
     repeat infer_instance
     refine (Tb (n := n + 1) hc).imp ?_
     rintro y0 z0 ⟨hy0, hz0⟩; rw [hy0, hz0]; clear hy0 hz0 y0 z0
     refine ⟨_, rfl, fun g => ?_, fun g => ?_⟩
     · repeat infer_instance
       refine ⟨?_, F1⟩
       have g : kindB c = false := by simpa using g
       simp only [Bb, g, Bool.and_false, Bool.false_and]
     · have gc : kindB c = true := by simpa using g
       repeat infer_instance
       refine Dw rfl ?_
       repeat infer_instance
       refine ⟨_, rfl, fun g => ?_, fun g => ?_⟩
       · have g := of_decide_eq_true g
         repeat infer_instance
         by_cases g3 : (ks.length : Int) ≤ 3
         · rw [decide_eq_true g3]
           refine ⟨_, rfl, ck ?_⟩
           repeat infer_instance
           refine Dw rfl ?_
           refine ⟨ks, none, fun d => some (.bl (kindB d)), rfl, szl _ (by omega), fun _ _ => rfl, ?_, ?_⟩
           · intro d hd s' F
             refine Fv rfl ?_
             repeat infer_instance
             refine (Tb (n := n + 1) ((hk2 d hd).mono F)).imp ?_
             rintro y0 z0 ⟨hy0, hz0⟩; rw [hy0, hz0]; clear hy0 hz0 y0 z0
             exact ⟨rfl, .refl _⟩
           · intro s2 F2 y2
             rw [Di] at y2
             repeat infer_instance
             refine ka (An y2) (Im kindB _) ⟨?_, F1.trans F2⟩
             have q1 : decide (1 ≤ ks.length) = true := decide_eq_true (by omega)
             have q3 : decide (ks.length ≤ 3) = true := decide_eq_true (by omega)
             simp only [Bb, ga, gc, q1, q3, Bool.true_and]
             rw [List.all_map]
             rfl
         · rw [decide_eq_false g3]
           refine ⟨_, rfl, Dv ⟨?_, F1⟩⟩
           have q3 : decide (ks.length ≤ 3) = false := decide_eq_false (by omega)
           simp only [Bb, q3, Bool.and_false, Bool.false_and]
       · have g := of_decide_eq_false g
         refine ⟨_, rfl, Dv ⟨?_, F1⟩⟩
         have q1 : decide (1 ≤ ks.length) = false := decide_eq_false (by omega)
         simp only [Bb, q1, Bool.and_false, Bool.false_and]
def Wz {α : Type} (r : Res α) (Q : α → Sto → Prop) (E : Sto → Prop) : Prop := (∃ a s, r = .ok a s ∧ Q a s) ∨ ∃ s, r = .exc 1 s ∧ E s
section
variable {α β : Type} {r : Res α} {Q P : α → Sto → Prop} {E G : Sto → Prop}
theorem ny (h : Wr r Q) : Wz r Q E := .inl h
theorem Wz.imp (h : Wz r P G) (q : ∀ a s, P a s → Q a s) (e : ∀ s, G s → E s) : Wz r Q E := by
 rcases h with ⟨a, s, h1, h2⟩ | ⟨s, h1, h2⟩
 · exact .inl ⟨a, s, h1, q a s h2⟩
 · exact .inr ⟨s, h1, e s h2⟩
theorem Iz {R : β → Sto → Prop} {f : α → Sto → Res β} (h : Wz r (fun a s => Wz (f a s) R E) E) : Wz (r.bind f) R E := by
 rcases h with ⟨a, s, rfl, p⟩ | ⟨s, rfl, p⟩
 · exact p
 · exact .inr ⟨s, rfl, p⟩
end
variable {call : Or} {env : DD.Env} {QF : Fl → Sto → Prop} {E : Sto → Prop} {F : Nat}
def KtZ (call : Or) (F : Nat) (r : Ss) (Q : Fl → Sto → Prop) (E : Sto → Prop) (f : Fl) (s : Sto) : Prop := match f with
 | .next env' => Wz (ag tab call F r env' s) Q E
 | f => Q f s
theorem fx {c : S} {r : Ss} (h : Wz (ai tab call F c env st) (KtZ call F r QF E) E) : Wz (ag tab call F (.cons c r) env st) QF E := by
 rw [gv]
 refine Iz (h.imp (fun f s h => ?_) fun _ h => h)
 cases f <;> first | exact h | exact .inl ⟨_, _, rfl, h⟩
theorem ja {e : DD.E} (h : Wz (Aa tab call e env st) (fun d s => QF (.next env) s) E) : Wz (ai tab call F (.ex e) env st) QF E := by
 rw [Rc]; exact Iz (h.imp (fun d s h => .inl ⟨_, _, rfl, h⟩) fun _ h => h)
theorem Li {f : Nat} {a : DD.E} {Q : D → Sto → Prop} (ha : Wr (Aa tab call a env st) fun d s => Wz (call f [d] s) Q E) : Wz (Aa tab call (.call f (.cons a .nil) []) env st) Q E := by
 obtain ⟨d, s, e, h⟩ := ha
 rw [Aa, Ap, e]
 simp only [ay, Ap, List.append_nil]
 exact h
end
section
variable {FF n : Nat} {st s : Sto}
def Con (st : Sto) (d : D) : Option (List D) → Prop
 | some xs => ∃ l, d = .loc l ∧ st[l]? = some (.lst xs) ∧ xs.length ≤ 20 ∧ ∀ e ∈ xs, El st 2 e
 | none => ∃ t, Bn st d = some (.b t) ∧ t ≠ "list" ∧ subB t "list" = some false
theorem Con.mono {d : D} {c : Option (List D)} {s s' : Sto} (F : Fr s s') (h : Con s d c) : Con s' d c := by
 cases c with
 | some xs =>
  obtain ⟨l, rfl, h1, h2, h3⟩ := h
  exact ⟨l, rfl, F.at h1, h2, fun e he => (h3 e he).mono F⟩
 | none =>
  obtain ⟨t, e, h1, h2⟩ := h
  refine ⟨t, ?_, h1, h2⟩
  cases d with
  | loc m =>
   simp only [Bn] at e ⊢
   cases z : s[m]? with
   | none => rw [z] at e; cases e
   | some c => rw [F.at z]; rw [z] at e; exact e
  | _ => exact e
def Cw : Option (List D) → Bool
 | some xs => xs.all Bf
 | none => false
def He (B : D → Bool) : Option (List D) → Bool
 | some xs => xs.all B
 | none => false
theorem Tc {c : Option (List D)} {d : D} {f : Nat} {B : D → Bool} {env : DD.Env} (h : Con st d c) (hv : bw env 0 = some d) (hf : ∀ e s, Fr st s → El s 2 e → Wr (C FF n f [e] s) fun r s' => r = .bl (B e) ∧ Fr s s') :
    Wr (Aj tab (C FF n) (.orE (.notE (.isi (.var 0) (.b "list"))) (.notE (.bt .allB (.cons (.comp 0 true 1 [0] [] (.var 0) .nil (.call f (.cons (.var 0) .nil) [])) .nil)))) env st) fun b s => b = !(He B c) ∧ Fr st s := by
  refine Rk (Nf (Rm (w_var hv ?_)))
  cases c with
  | none =>
    obtain ⟨t, e, h1, h2⟩ := h
    exact ⟨_, false, e, h2, jz ⟨rfl, .refl _⟩⟩
  | some xs =>
    obtain ⟨l, rfl, h1, h2, h3⟩ := h
    refine ⟨_, true, nj (An h1), rfl, Jy ?_⟩
    refine Nf (Rl (Ea (Ng (w_var hv ⟨xs, some l, fun e => some (.bl (B e)), by simp only [Bi, An h1]; rfl, szl _ (by omega), fun s F => Ft (An h1) F, ?_, ?_⟩))))
    · intro e he s F
      refine Fv rfl ?_
      repeat infer_instance
      refine (hf e s F ((h3 e he).mono F)).imp ?_
      rintro _ s2 ⟨rfl, F2⟩
      exact ⟨rfl, F2⟩
    · intro s F y
      rw [Di] at y
      refine dw (ka (An y) (Im B xs) ⟨_, rfl, ?_, F⟩)
      simp [He]
theorem afy {c : Option (List D)} {d : D} (h : Con st d c) : Wr (C FF (n + 2) 5 [d] st) fun r s => r = .bl (Cw c) ∧ Fr st s := by
 refine Ce [some d] (b := kg) rfl rfl (by decide) rfl ?_
 unfold kg
 repeat infer_instance
 cases c with
 | none =>
  obtain ⟨t, e, h1, h2⟩ := h
  exact ⟨_, false, e, h2, _, rfl, Dv ⟨rfl, .refl _⟩⟩
 | some xs =>
  obtain ⟨l, rfl, h1, h2, h3⟩ := h
  refine ⟨_, true, nj (An h1), rfl, _, rfl, ck ?_⟩
  repeat infer_instance
  refine ⟨xs, some l, fun e => some (.bl (Bf e)), by simp only [Bi, An h1]; rfl, szl _ (by omega), fun s F => Ft (An h1) F, ?_, ?_⟩
  · intro e he s F
    refine Fv rfl ?_
    repeat infer_instance
    refine (Sy ((h3 e he).mono F)).imp ?_
    rintro _ s2 ⟨rfl, F2⟩
    exact ⟨rfl, F2⟩
  · intro s F y
    rw [Di] at y
    repeat infer_instance
    refine ka (An y) (Im Bf xs) ⟨?_, F⟩
    simp only [Cw]
    rw [List.all_map]
    rfl
theorem Ja {np nl f : Nat} {b : Ss} {args : List D} {Q : D → Sto → Prop} {E : Sto → Prop} (env : DD.Env) (h : fns[f]? = some ⟨np, nl, b⟩) (hl : args.length = np) (hn : np ≤ nl) (he : args.map some ++ List.replicate (nl - np) none = env) (w : Wz (ag tab (C FF n) FF b env st) (Kf Q) E) : Wz (C FF (n + 1) f args st) Q E := by
  show Wz (match fns[f]? with
      | some fn => if args.length = fn.np ∧ fn.np ≤ fn.nl then fin (ag tab (C FF n) FF fn.body (args.map some ++ List.replicate (fn.nl - fn.np) none) st) else .bad
      | none => .bad) Q E
  rw [h]; simp only; rw [if_pos ⟨hl, hn⟩, he]
  unfold fin
  refine Iz (w.imp (fun f s h => ?_) fun _ h => h)
  cases f with
  | next e => exact .inl ⟨_, _, rfl, h⟩
  | ret d => exact .inl ⟨_, _, rfl, h⟩
  | brk e => exact h.elim
  | cont e => exact h.elim
theorem jb {c : DD.E} {env : DD.Env} {call : Or} {F : Nat} {QF : Fl → Sto → Prop} {E : Sto → Prop} {r : Ss} (h : Wr (Aj tab call c env st) fun x s => (x = true → E s) ∧ (x = false → Wz (ag tab call F r env s) QF E)) : Wz (ag tab call F (.cons (.ifS c (.cons (.raiseS 1) .nil) .nil) r) env st) QF E := by
 obtain ⟨x, s, e, h⟩ := h
 rw [gv, my, e, ay]
 cases x with
 | true => rw [if_pos rfl, gv, x_raise, qb, qb]; exact .inr ⟨s, rfl, h.1 rfl⟩
 | false => rw [if_neg (by decide), ft, ay]; exact h.2 rfl
theorem afz {c : Option (List D)} {d : D} (h : Con st d c) : Wz (C FF (n + 3) 10 [d] st) (fun r s => r = .non ∧ Cw c = true ∧ Fr st s) (fun s => Cw c = false ∧ Fr st s) := by
 refine Ja [some d] (b := kj) rfl rfl (by decide) rfl ?_
 unfold kj
 refine jb ?_
 repeat infer_instance
 refine (afy h).imp ?_
 rintro _ s1 ⟨rfl, F⟩
 refine ⟨_, rfl, fun g => ⟨by simpa using g, F⟩, fun g => .inl ⟨_, _, ft, rfl, by simpa using g, F⟩⟩
def Hf : Option (List D) → Bool
 | some xs => xs.all Bb
 | none => false
theorem aga {c : Option (List D)} {d : D} (h : Con st d c) : Wz (C FF (n + 4) 9 [d] st) (fun r s => r = .non ∧ Hf c = true ∧ Fr st s) (fun s => Hf c = false ∧ Fr st s) := by
 refine Ja [some d] (b := Ki) rfl rfl (by decide) rfl ?_
 unfold Ki
 refine jb ((Tc (B := Bb) h rfl fun e s F he => afx (k := 0) he).imp ?_)
 rintro _ s1 ⟨rfl, F⟩
 have e : He Bb c = Hf c := by cases c <;> rfl
 rw [e]
 exact ⟨fun g => ⟨by simpa using g, F⟩, fun g => .inl ⟨_, _, ft, rfl, by simpa using g, F⟩⟩
end
section
variable {FF n : Nat} {st s : Sto}
theorem Ny {x : Str} (h : Bf (.str x) = true) : Nm x := by
 simp only [Bf, Bool.and_eq_true, decide_eq_true_eq, List.all_eq_true] at h
 refine ⟨h.1.1, h.1.2, fun c hc => ?_⟩
 have := h.2 c hc
 simp only [Fc, Bool.and_eq_true, decide_eq_true_eq] at this
 exact ⟨⟨c - 97, by omega⟩, by simp; omega⟩
theorem nz {d : D} (h : Bf d = true) : ∃ x, d = .str x ∧ Nm x := by
 cases d with
 | str x => exact ⟨x, rfl, Ny h⟩
 | _ => cases h
theorem Nz {x : Str} (h : Nm x) : Bf (.str x) = true := by
 simp only [Bf, Bool.and_eq_true, decide_eq_true_eq, List.all_eq_true]
 refine ⟨⟨h.lo, h.hi⟩, fun c hc => ?_⟩
 obtain ⟨k, rfl⟩ := h.abc c hc
 have := k.isLt
 simp only [Fc, Bool.and_eq_true, decide_eq_true_eq]
 omega
theorem lj : ∀ {xs : List D}, xs.all Bf = true → ∃ ys : List Str, xs = ys.map D.str ∧ ∀ y ∈ ys, Nm y
 | [], _ => ⟨[], rfl, by simp⟩
 | d :: r, h => by
  simp only [List.all_cons, Bool.and_eq_true] at h
  obtain ⟨x, rfl, hx⟩ := nz h.1
  obtain ⟨ys, rfl, hy⟩ := lj h.2
  exact ⟨x :: ys, rfl, by intro y hm; rcases List.mem_cons.mp hm with rfl | hm; exact hx; exact hy y hm⟩
theorem agb {d : D} (h : bq d = true) : ∃ w, d = Aw w ∧ WRow w := by
 unfold bq at h
 split at h
 · rename_i a lo hi
   simp only [Bool.and_eq_true, decide_eq_true_eq] at h
   obtain ⟨x, rfl, hx⟩ := nz h.1
   exact ⟨(x, lo, hi), rfl, hx, h.2.1, h.2.2⟩
 · cases h
theorem Oa : ∀ {xs : List D}, xs.all bq = true → ∃ ws : List (Str × Int × Int), xs = ws.map Aw ∧ ∀ w ∈ ws, WRow w
 | [], _ => ⟨[], rfl, by simp⟩
 | d :: r, h => by
  simp only [List.all_cons, Bool.and_eq_true] at h
  obtain ⟨x, rfl, hx⟩ := agb h.1
  obtain ⟨ys, rfl, hy⟩ := Oa h.2
  exact ⟨x :: ys, rfl, by intro y hm; rcases List.mem_cons.mp hm with rfl | hm; exact hx; exact hy y hm⟩
theorem Td {d : D} (h : kindB d = true) : Kd d := by
 unfold kindB at h
 have h2 : d = W "num" ∨ d = W "thing" := of_decide_eq_true h
 exact h2
theorem Ji {d : D} (h : Bb d = true) : ∃ f, d = Bp f ∧ gi d := by
 unfold Bb at h
 split at h
 · rename_i a ks c
   simp only [Bool.and_eq_true, decide_eq_true_eq, List.all_eq_true] at h
   obtain ⟨x, rfl, hx⟩ := nz h.1.1
   exact ⟨(x, ks, c), rfl, x, ks, c, rfl, hx, fun d hd => Td (h.2.2 d hd), h.2.1.1, h.2.1.2, Td h.1.2⟩
 · cases h
theorem Te : ∀ {xs : List D}, xs.all Bb = true → ∃ fs : List (Str × List D × D), xs = fs.map Bp ∧ ∀ f ∈ fs, gi (Bp f)
 | [], _ => ⟨[], rfl, by simp⟩
 | d :: r, h => by
  simp only [List.all_cons, Bool.and_eq_true] at h
  obtain ⟨x, rfl, hx⟩ := Ji h.1
  obtain ⟨ys, rfl, hy⟩ := Te h.2
  exact ⟨x :: ys, rfl, by intro y hm; rcases List.mem_cons.mp hm with rfl | hm; exact hx; exact hy y hm⟩
def Ob (xs : List D) : Int := xs.foldl (fun a d => match d with | .tup [_, .int lo, .int hi] => a * (hi - lo + 1) | _ => a) 1
theorem Hg (ws : List (Str × Int × Int)) : Ob (ws.map Aw) = Au ws := by
 unfold Ob Au
 rw [List.foldl_map]
def Fd : Option (List D) → Bool
 | some xs => xs.all bq && decide (Ob xs ≤ 3600)
 | none => false
theorem agc {c : Option (List D)} {d : D} (h : Con st d c) : Wz (C FF (n + 4) 8 [d] st) (fun r s => r = .non ∧ Fd c = true ∧ Fr st s) (fun s => Fd c = false ∧ Fr st s) := by
 refine Ja [some d, none, none, none, none] (b := ki) rfl rfl (by decide) rfl ?_
 unfold ki
 refine jb ((Tc (B := bq) h rfl fun e s F he => afw (k := 1) he).imp ?_)
 rintro _ s1 ⟨rfl, F1⟩
 cases c with
 | none => exact ⟨fun _ => ⟨rfl, F1⟩, fun g => by simp [He] at g⟩
 | some xs =>
  refine ⟨fun g => ⟨?_, F1⟩, fun g => ?_⟩
  · simp only [Fd]
    have : xs.all bq = false := by simpa [He] using g
    rw [this]; rfl
  have g : xs.all bq = true := by
   simp only [He] at g
   cases z : xs.all bq with
   | true => rfl
   | false => rw [z] at g; cases g
  obtain ⟨l, rfl, h1, h2, h3⟩ := h
  obtain ⟨ws, rfl, hw⟩ := Oa g
  have hl := F1.lst (An h1)
  refine fx (ny (dj (Cu ⟨of_decide_eq_true rfl, ?_⟩)))
  refine fx (ny (Rn (w_var rfl ⟨ws.map Aw, some l, by simp only [fh, hl]; rfl, ?_⟩)))
  refine Jx (fun i env s => s = s1 ∧ ∃ a b c, env = [some (.loc l), some (.int (Au (ws.take i))), a, b, c]) ?_ ⟨rfl, none, none, none, rfl⟩ ?_ ?_
  · rintro i env s ⟨rfl, _⟩
    exact Ft hl (.refl _)
  · rintro j d hd env s ⟨rfl, a, b, c, rfl⟩
    rw [List.getElem?_map] at hd
    cases hw2 : ws[j]? with
    | none => rw [hw2] at hd; cases hd
    | some w =>
     rw [hw2] at hd; cases hd
     have hm := hw w (List.mem_of_getElem? hw2)
     refine jx rfl ?_
     repeat infer_instance
     have h1 := hm.lo
     have h2 := hm.hi
     refine ⟨_, rfl, Ni (Or.inr (Or.inl ⟨by omega, by omega⟩)) ⟨of_decide_eq_true rfl, ?_⟩⟩
     refine bh (Ez ⟨_, rfl, rfl, some (.str w.1), some (.int w.2.1), some (.int w.2.2), ?_⟩)
     rw [List.take_add_one, hw2]
     simp [Au, List.foldl_append]
  · rintro env s ⟨rfl, a, b, c, rfl⟩
    rw [List.length_map, List.take_length]
    refine jb ?_
    repeat infer_instance
    refine ⟨_, rfl, fun g2 => ⟨?_, F1⟩, fun g2 => .inl ⟨_, _, ft, rfl, ?_, F1⟩⟩
    · have g2 := of_decide_eq_true g2
      simp only [Fd, Hg, decide_eq_false (show ¬ Au ws ≤ 3600 by omega), Bool.and_false]
    · have g2 := of_decide_eq_false g2
      simp only [Fd, Hg, decide_eq_true (show Au ws ≤ 3600 by omega), Bool.and_true, g]
theorem tf : ∀ (xs acc : List D), (xs.foldl (fun acc x => if x ∈ acc then acc else acc ++ [x]) acc).length ≤ acc.length + xs.length
 | [], acc => by simp
 | d :: r, acc => by
  rw [List.foldl_cons]
  refine Nat.le_trans (tf r _) ?_
  split <;> simp <;> omega
theorem Tf : ∀ (xs acc : List D), acc.Nodup → ¬ (acc ++ xs).Nodup → (xs.foldl (fun acc x => if x ∈ acc then acc else acc ++ [x]) acc).length < acc.length + xs.length
 | [], acc, h, g => by simp at g; exact absurd h g
 | d :: r, acc, h, g => by
  rw [List.foldl_cons]
  by_cases hd : d ∈ acc
  · rw [if_pos hd]
    have := tf r acc
    simp
    omega
  · rw [if_neg hd]
    have h2 : (acc ++ [d]).Nodup := by
     rw [List.nodup_append]
     exact ⟨h, by simp, fun a ha b hb e => hd (by simp at hb; rw [← hb, ← e]; exact ha)⟩
    have := Tf r (acc ++ [d]) h2 (by simpa using g)
    simp at this ⊢
    omega
theorem agd {xs : List Str} {l : Nat} (hl : af st l = some (xs.map D.str)) (hz : xs.length ≤ 1000) : Wz (C FF (n + 1) 12 [.loc l] st) (fun r s => r = .non ∧ xs.Nodup ∧ s = st) (fun s => ¬ xs.Nodup ∧ s = st) := by
 by_cases h : xs.Nodup
 · exact .inl ⟨_, _, afb (FF := FF) (n := n) hl h hz, rfl, h, rfl⟩
 · refine Ja [some (.loc l)] (b := Gx) rfl rfl (by decide) rfl ?_
   unfold Gx
   refine jb ?_
   have hk : (xs.map D.str).all Bv = true := by
    rw [List.all_eq_true]
    intro d hd
    obtain ⟨x, _, rfl⟩ := List.mem_map.mp hd
    rfl
   have hd : ¬ (xs.map D.str).Nodup := fun g => h (by
    rw [List.nodup_iff_pairwise_ne] at g ⊢
    rw [List.pairwise_map] at g
    exact g.imp fun hab e => hab (by rw [e]))
   have hlt := Tf (xs.map D.str) [] (by simp) (by simpa using hd)
   refine fu (Jw (Ea (w_var rfl (dw (rj (a := .int ((fz (xs.map D.str)).length : Nat)) (s := st) ?_ ?_)))))
   · have hz2 : (xs.map D.str).length < 4000 := by simp; omega
     simp only [btD, hl, hk, hz2, and_self, if_true]
   · refine Jw (Ea (w_var rfl (dw (Jz hl (Rp ⟨_, rfl, ?_, ?_⟩)))))
     · exact fun _ => ⟨h, rfl⟩
     · intro g
       have g : ((fz (xs.map D.str)).length : Int) = ((xs.map D.str).length : Int) := by simpa using g
       unfold fz at g
       simp only [List.length_nil, Nat.zero_add] at hlt
       omega
end
section
variable {FF n : Nat} {st s : Sto}
theorem Tg {all : List D} {p : Option Nat} {body : D → DD.Env → Sto → Res Fl} {QF : Fl → Sto → Prop} {E : Sto → Prop} (J : Nat → DD.Env → Sto → Prop) (hs : ∀ i env st, J i env st → stays st p all = true) :
    ∀ (xs : List D) (i : Nat) (env : DD.Env) (st : Sto), J i env st → (∀ (j : Nat) (d : D), xs[j]? = some d → ∀ env st, J (i + j) env st → Wz (body d env st) (fun f s => ∃ env', f = .next env' ∧ J (i + j + 1) env' s) E) →
    (∀ env s, J (i + xs.length) env s → QF (.next env) s) → Wz (forLoop all p body xs env st) QF E
  | [], i, env, st, h, _, q => .inl ⟨_, _, by simp only [forLoop]; rw [if_pos (hs _ _ _ h)], q _ _ h⟩
  | d :: r, i, env, st, h, ht, q => by
    have h1 := ht 0 d rfl env st h
    simp only [forLoop]
    rw [if_pos (hs _ _ _ h)]
    refine Iz (h1.imp (fun f s h2 => ?_) fun _ h => h)
    obtain ⟨env', rfl, h2⟩ := h2
    refine Tg J hs r (i + 1) env' s h2 (fun j x hx env st hj => ?_) fun env s hj => q env s (by rwa [show i + (d :: r).length = i + 1 + r.length by simp; omega])
    have := ht (j + 1) x (by simpa using hx) env st (by rwa [show i + (j + 1) = i + 1 + j by omega])
    rwa [show i + (j + 1) + 1 = i + 1 + j + 1 by omega] at this
def Good (c0 c1 c2 c3 c4 : Option (List D)) : Prop := ∃ V : Vals, VOk V ∧ c0 = some (V.nums.map D.str) ∧ c1 = some (V.ws.map Aw) ∧ c2 = some (V.things.map D.str) ∧ c3 = some (V.fs.map Bp) ∧ c4 = some (V.arrs.map D.str)
theorem Hh {xs : List Str} (h : ∀ x ∈ xs, Nm x) : Cw (some (xs.map D.str)) = true := by
 simp only [Cw, List.all_eq_true]
 intro d hd
 obtain ⟨x, hx, rfl⟩ := List.mem_map.mp hd
 exact Nz (h x hx)
theorem Th {ws : List (Str × Int × Int)} (h : ∀ w ∈ ws, WRow w) (hp : Au ws ≤ 3600) : Fd (some (ws.map Aw)) = true := by
 simp only [Fd, Hg, decide_eq_true hp, Bool.and_true, List.all_eq_true]
 intro d hd
 obtain ⟨w, hw, rfl⟩ := List.mem_map.mp hd
 have := h w hw
 simp only [bq, Nz this.nm, decide_eq_true this.lo, decide_eq_true this.hi, Bool.and_self]
theorem Ti {fs : List (Str × List D × D)} (h : ∀ f ∈ fs, gi (Bp f)) : Hf (some (fs.map Bp)) = true := by
 simp only [Hf, List.all_eq_true]
 intro d hd
 obtain ⟨f, hf, rfl⟩ := List.mem_map.mp hd
 obtain ⟨x, ks, k, e, h1, h2, h3, h4, h5⟩ := h f hf
 rw [e]
 have hk : ∀ {d : D}, Kd d → kindB d = true := fun h => decide_eq_true h
 have : ks.all kindB = true := by rw [List.all_eq_true]; exact fun d hd => hk (h2 d hd)
 simp only [Bb, Nz h1, hk h5, decide_eq_true h3, decide_eq_true h4, this, Bool.and_self]
variable {c0 c1 c2 c3 c4 : Option (List D)} {d0 d1 d2 d3 d4 : D} {o : Nat}
abbrev Oc (o : Nat) (d0 d1 d2 d3 d4 : D) (x : Option D) : DD.Env := [some (.loc o), some d0, some d1, some d2, some d3, some d4, x]
theorem age (ho : st[o]? = some (.ins 8 [])) (h0 : Con st d0 c0) (h1 : Con st d1 c1) (h2 : Con st d2 c2) (h3 : Con st d3 c3) (h4 : Con st d4 c4) : Wz (C FF (n + 5) 13 [.loc o, d0, d1, d2, d3, d4] st) (fun r s => r = .non ∧ Good c0 c1 c2 c3 c4 ∧ ∃ fs kn, Hp o fs kn st s) (fun s => ¬ Good c0 c1 c2 c3 c4 ∧ Fr st s) := by
 refine Ja (Oc o d0 d1 d2 d3 d4 none) (b := gy) rfl rfl (by decide) rfl ?_
 unfold gy
 refine fx ?_
 have hf : Wr (Aa tab (C FF (n + 4)) (.tupE (.cons (.var 1) (.cons (.var 3) (.cons (.var 5) .nil)))) (Oc o d0 d1 d2 d3 d4 none) st) fun d s => d = .tup [d0, d2, d4] ∧ s = st := by
  repeat infer_instance
  exact ⟨rfl, rfl⟩
 obtain ⟨d9, s9, ef, hd9, hs9⟩ := hf
 rw [hd9, hs9] at ef
 clear hd9 hs9 d9 s9
 rw [Zr ef rfl]
 refine Tg (fun i env s => Fr st s ∧ (∃ x, env = Oc o d0 d1 d2 d3 d4 x) ∧ (1 ≤ i → Cw c0 = true) ∧ (2 ≤ i → Cw c2 = true) ∧ (3 ≤ i → Cw c4 = true)) (fun _ _ _ _ => rfl) [d0, d2, d4] 0 _ _ ⟨.refl _, ⟨none, rfl⟩, by omega, by omega, by omega⟩ ?_ ?_
 · rintro j d hd env s ⟨F, ⟨x, rfl⟩, g0, g2, g4⟩
   rw [rf rfl]
   refine fx (ja (Li (w_var rfl ?_)))
   have key : ∃ c, Con s d c ∧ (Cw c = false → ¬ Good c0 c1 c2 c3 c4) ∧ (Cw c = true → (1 ≤ 0 + j + 1 → Cw c0 = true) ∧ (2 ≤ 0 + j + 1 → Cw c2 = true) ∧ (3 ≤ 0 + j + 1 → Cw c4 = true)) := by
    rcases j with _ | _ | _ | j
    · cases hd
      refine ⟨c0, h0.mono F, ?_, fun g => ⟨fun _ => g, by omega, by omega⟩⟩
      rintro g ⟨V, hV, rfl, _⟩
      rw [Hh hV.nums] at g; cases g
    · cases hd
      refine ⟨c2, h2.mono F, ?_, fun g => ⟨fun _ => g0 (by omega), fun _ => g, by omega⟩⟩
      rintro g ⟨V, hV, _, _, rfl, _⟩
      rw [Hh hV.things] at g; cases g
    · cases hd
      refine ⟨c4, h4.mono F, ?_, fun g => ⟨fun _ => g0 (by omega), fun _ => g2 (by omega), fun _ => g⟩⟩
      rintro g ⟨V, hV, _, _, _, _, rfl⟩
      rw [Hh hV.arrs] at g; cases g
    · cases hd
   obtain ⟨c, k1, k2, k3⟩ := key
   refine (afz (n := n + 1) k1).imp ?_ ?_
   · rintro _ s2 ⟨rfl, g, F2⟩
     obtain ⟨q0, q2, q4⟩ := k3 g
     exact .inl ⟨_, _, ft, _, rfl, F.trans F2, ⟨_, rfl⟩, q0, q2, q4⟩
   · rintro s2 ⟨g, F2⟩
     exact ⟨k2 g, F.trans F2⟩
 rintro env s ⟨F, ⟨x, rfl⟩, g0, g2, g4⟩
 replace g0 := g0 (of_decide_eq_true rfl)
 replace g2 := g2 (of_decide_eq_true rfl)
 replace g4 := g4 (of_decide_eq_true rfl)
 refine fx (ja (Li (w_var rfl ((agc (n := n) (h1.mono F)).imp ?_ ?_))))
 rotate_left
 · rintro s2 ⟨g, F2⟩
   refine ⟨?_, F.trans F2⟩
   rintro ⟨V, hV, _, rfl, _⟩
   rw [Th hV.ws hV.prod] at g; cases g
 rintro _ s2 ⟨rfl, g1, F2⟩
 have F2 := F.trans F2
 refine fx (ja (Li (w_var rfl ((aga (n := n) (h3.mono F2)).imp ?_ ?_))))
 rotate_left
 · rintro s3 ⟨g, F3⟩
   refine ⟨?_, F2.trans F3⟩
   rintro ⟨V, hV, _, _, _, rfl, _⟩
   rw [Ti hV.fs] at g; cases g
 rintro _ s3 ⟨rfl, g3, F3⟩
 have F3 := F2.trans F3
 obtain ⟨x0, rfl⟩ : ∃ xs, c0 = some xs := by cases c0 with | none => cases g0 | some xs => exact ⟨xs, rfl⟩
 obtain ⟨x1, rfl⟩ : ∃ xs, c1 = some xs := by cases c1 with | none => cases g1 | some xs => exact ⟨xs, rfl⟩
 obtain ⟨x2, rfl⟩ : ∃ xs, c2 = some xs := by cases c2 with | none => cases g2 | some xs => exact ⟨xs, rfl⟩
 obtain ⟨x3, rfl⟩ : ∃ xs, c3 = some xs := by cases c3 with | none => cases g3 | some xs => exact ⟨xs, rfl⟩
 obtain ⟨x4, rfl⟩ : ∃ xs, c4 = some xs := by cases c4 with | none => cases g4 | some xs => exact ⟨xs, rfl⟩
 obtain ⟨l0, rfl, a0, b0, _⟩ := h0
 obtain ⟨l1, rfl, a1, b1, _⟩ := h1
 obtain ⟨l2, rfl, a2, b2, _⟩ := h2
 obtain ⟨l3, rfl, a3, b3, _⟩ := h3
 obtain ⟨l4, rfl, a4, b4, _⟩ := h4
 obtain ⟨nums, rfl, n0⟩ := lj g0
 obtain ⟨things, rfl, n2⟩ := lj g2
 obtain ⟨arrs, rfl, n4⟩ := lj g4
 simp only [Fd, Bool.and_eq_true, decide_eq_true_eq] at g1
 obtain ⟨ws, rfl, n1⟩ := Oa g1.1
 obtain ⟨fs, rfl, n3⟩ := Te g3
 rw [Hg] at g1
 simp only [List.length_map] at b0 b1 b2 b3 b4
 have hne : ∀ {l : Nat} {xs : List D}, st[l]? = some (.lst xs) → l ≠ o := fun e z => by rw [z, ho] at e; cases e
 let V : Vals := ⟨nums, ws, things, fs, arrs⟩
 have A : Args st V o l0 l1 l2 l3 l4 := ⟨a0, a1, a2, a3, a4, hne a0, hne a1, hne a2, hne a3, hne a4⟩
 refine fx (ja (Li ?_))
 repeat infer_instance
 refine (Sv (n := n + 3) (F3.lst (An a1)) (by omega)).imp ?_
 rintro _ s4 ⟨rfl, F4, y4⟩
 have F4 := F3.trans F4
 refine Bl (F4.at a0) y4 (szl _ (by simp; omega)) ?_
 refine w_var rfl ?_
 generalize e5 : s4 ++ [.lst (nums.map D.str ++ (ws.map (·.1)).map D.str)] = s5
 have F5 : Fr st s5 := by rw [← e5]; exact F4.trans (.app _)
 have y5 := at_of e5
 refine Bl y5 (F5.at a2) (szl _ (by simp; omega)) ?_
 generalize e6 : s5 ++ [.lst ((nums.map D.str ++ (ws.map (·.1)).map D.str) ++ things.map D.str)] = s6
 have F6 : Fr st s6 := by rw [← e6]; exact F5.trans (.app _)
 have y6 := at_of e6
 repeat infer_instance
 refine (afe (n := n + 3) (F6.lst (An a3)) (by omega)).imp ?_
 rintro _ s7 ⟨rfl, F7, y7⟩
 refine Bl (F7.at y6) y7 (szl _ (by simp; omega)) ?_
 have F7 := F6.trans F7
 refine w_var rfl ?_
 generalize e8 : s7 ++ [.lst (((nums.map D.str ++ (ws.map (·.1)).map D.str) ++ things.map D.str) ++ (fs.map (·.1)).map D.str)] = s8
 have F8 : Fr st s8 := by rw [← e8]; exact F7.trans (.app _)
 have y8 := at_of e8
 refine Bl y8 (F8.at a4) (szl _ (by simp; omega)) ?_
 generalize e9 : s8 ++ [.lst ((((nums.map D.str ++ (ws.map (·.1)).map D.str) ++ things.map D.str) ++ (fs.map (·.1)).map D.str) ++ arrs.map D.str)] = s9
 have F9 : Fr st s9 := by rw [← e9]; exact F8.trans (.app _)
 have y9 : af s9 s8.length = some (V.names.map D.str) := by
  rw [← e9, An (gg0.trans rfl)]
  unfold Vals.names
  simp [V]
 have lenV : V.names.length ≤ 100 := by unfold Vals.names; simp [V]; omega
 refine (agd (n := n + 3) y9 (by omega)).imp ?_ ?_
 · rintro _ s10 ⟨rfl, nd, rfl⟩
   have hV : VOk V := ⟨n0, n1, n2, n3, n4, nd, g1.2, lenV⟩
   refine ny ((afj (n := n) (V := V) hV A (s := s10) ⟨fun j h _ => F9 j h, F9.len, F9.at ho, by simp, by simp, (List.getElem?_eq_some_iff.mp ho).1, by simp⟩).imp ?_)
   rintro _ s11 ⟨⟨e, rfl⟩, h1, _⟩
   exact ⟨rfl, ⟨V, hV, rfl, rfl, rfl, rfl, rfl⟩, h1⟩
 · rintro s10 ⟨nd, rfl⟩
   refine ⟨?_, F9⟩
   rintro ⟨U, hU, e0, e1, e2, e3, e4⟩
   apply nd
   have inj : ∀ {a b : List Str}, some (a.map D.str) = some (b.map D.str) → a = b := by
    intro a b h
    injection h with h
    exact (List.map_inj_right (fun _ _ e => D.str.inj e)).mp h
   have injw : ∀ {a b : List (Str × Int × Int)}, some (a.map Aw) = some (b.map Aw) → a = b := by
    intro a b h
    injection h with h
    refine (List.map_inj_right (fun x y e => ?_)).mp h
    simp at e
    exact Prod.ext e.1 (Prod.ext e.2.1 e.2.2)
   have injf : ∀ {a b : List (Str × List D × D)}, some (a.map Bp) = some (b.map Bp) → a = b := by
    intro a b h
    injection h with h
    refine (List.map_inj_right (fun x y e => ?_)).mp h
    simp at e
    exact Prod.ext e.1 (Prod.ext e.2.1 e.2.2)
   have : U = V := by
    cases U
    simp only [Vals.mk.injEq, V]
    exact ⟨(inj e0).symm, (injw e1).symm, (inj e2).symm, (injf e3).symm, (inj e4).symm⟩
   rw [← this]
   exact hU.nd
end
section
variable {FF n : Nat} {st s : Sto}
def Kh (QF : Fl → Sto → Prop) (i : Nat) (f : Fl) (s : Sto) : Prop := match f with
 | .next env2 => QF (.next (env2.set i none)) s
 | .ret d => QF (.ret d) s
 | _ => False
theorem agf {call : Or} {F : Nat} {env : DD.Env} {b h : Ss} {c i : Nat} {QF : Fl → Sto → Prop} (hi : i < env.length) (ht : tab 1 (.o c) = some true) (w : Wz (ag tab call F b env st) QF (fun s => Wr (ag tab call F h (blank env i (.loc s.length)) (s ++ [.exn 1])) (Kh QF i))) : Wr (ai tab call F (.tryS b c i h) env st) QF := by
 rw [zr]
 rcases w with ⟨f, s, e, q⟩ | ⟨s, e, f, s2, e2, q⟩
 · rw [e]; exact aq q
 · rw [e]
   simp only [ht, if_pos hi, e2]
   cases f with
   | next env2 => exact aq q
   | ret d => exact aq q
   | brk d => exact q.elim
   | cont d => exact q.elim
theorem agg {QF : Fl → Sto → Prop} {i : Nat} {env2 : DD.Env} (h : QF (.next (env2.set i none)) s) : Kh QF i (.next env2) s := h
theorem agh {call : Or} {env : DD.Env} {c f : Nat} {es : Es} {Q : D → Sto → Prop} {E : Sto → Prop} (h : Wr (Ap tab call es env st) fun ds s => Wz (call f (.loc s.length :: ds) (s ++ [.ins c []])) (fun r s' => r = .non ∧ Q (.loc s.length) s') E) : Wz (Aa tab call (.mk c f es) env st) Q E := by
 obtain ⟨ds, s, e, h⟩ := h
 rw [Aa, e, ay]
 refine Iz (h.imp (fun r s' h => ?_) fun _ h => h)
 obtain ⟨rfl, h⟩ := h
 exact .inl ⟨_, _, rfl, h⟩
variable {c0 c1 c2 c3 c4 : Option (List D)} {d0 d1 d2 d3 d4 : D} {L : Nat}
theorem agi {l : Nat} {xs : List Bool} (h : af st l = some (xs.map D.bl)) (hx : ∀ b ∈ xs, b = false) {Q : D → Sto → Prop} (q : Q (.bl true) st) : Wr (cmD .notIn (.bl true) (.loc l) st) Q := by
 refine ⟨_, _, ?_, q⟩
 have e1 : Bh ((xs.map D.bl).map (Ah st 40)) = some (xs.map PyData.bool) := by
  clear h hx
  induction xs with
  | nil => rfl
  | cons b r ih => simp only [List.map_cons, Ah, Bh, ih, Option.map_some]
 have e2 : ((xs.map PyData.bool).any fun y => PyData.eqv y (.bool true)) = false := by
  rw [List.any_map, List.any_eq_false]
  intro b hb
  rw [hx b hb]
  simp [PyData.eqv]
 simp only [cmD, inD, (Gv h).1, (Gv h).2, inS, Ah, h, Option.bind_some, e1, Option.map_some, e2, Bool.not_false]
theorem Hi (k : Nat) (h : k ∈ [2, 3, 4, 5, 6, 7]) : cg tab (.o 1) (.o k) = some false := by
 simp only [List.mem_cons, List.not_mem_nil, or_false] at h
 rcases h with rfl | rfl | rfl | rfl | rfl | rfl <;> rfl
theorem agj : cg tab (.o 1) (.o 1) = some true := rfl
theorem agk : cg tab (.o 1) (.b "ValueError") = some true := by simp [cg, tab]
theorem agl (hL : af st L = some [d0, d1, d2, d3, d4]) (h0 : Con st d0 c0) (h1 : Con st d1 c1) (h2 : Con st d2 c2) (h3 : Con st d3 c3) (h4 : Con st d4 c4) : Wr (C FF (n + 6) 24 [.loc L] st) fun r s => (Good c0 c1 c2 c3 c4 → r = W "made") ∧ (¬ Good c0 c1 c2 c3 c4 → r = W "bad") ∧ Fr st s := by
 refine Ce [some (.loc L), none, none, none] (b := Kl) rfl rfl (by decide) rfl ?_
 unfold Kl
 refine Be (dj (Cu ⟨of_decide_eq_true rfl, bh (Be (agf (of_decide_eq_true rfl) rfl ?_))⟩))
 have F0 : Fr st (st ++ [.ins 8 []]) := .app _
 refine fx (ja (agh ?_))
 repeat infer_instance
 refine ar hL rfl ?_
 repeat infer_instance
 refine ar hL rfl ?_
 repeat infer_instance
 refine ar hL rfl ?_
 repeat infer_instance
 refine ar hL rfl ?_
 repeat infer_instance
 refine ar hL rfl ?_
 refine dw ?_
 have I := age (FF := FF) (n := n) (st := st ++ [.ins 8 []]) (o := st.length) (gg0.trans rfl) (h0.mono F0) (h1.mono F0) (h2.mono F0) (h3.mono F0) (h4.mono F0)
 refine Wz.imp I ?_ ?_
 · rintro _ s1 ⟨rfl, g, fs, kn, P⟩
   refine ⟨rfl, .inl ⟨_, _, ft, ?_⟩⟩
   have F1 : Fr st s1 := fun j hj => by
    rw [P.fr j (by simp; omega) (by omega)]
    exact F0 j hj
   refine bh (Be (gw (w_var rfl ?_)))
   exact ⟨fun _ => rfl, fun h => absurd g h, F1⟩
 · rintro s1 ⟨g, F1⟩
   have F1 := F0.trans F1
   generalize e2 : s1 ++ [.exn 1] = s2
   have F2 := Ao e2
   have y2 := at_of e2
   have ty : ∀ {s'}, Fr s2 s' → Bn s' (.loc s1.length) = some (.o 1) := fun F => by simp only [Bn, F.at y2, Option.bind_some, me]
   have t0 := ty (.refl _)
   repeat infer_instance
   refine ⟨_, false, t0, Hi _ (by simp), ?_⟩
   repeat infer_instance
   refine ⟨_, false, t0, Hi _ (by simp), ?_⟩
   repeat infer_instance
   generalize e3 : s2 ++ [.lst [.bl false, .bl false]] = s3
   have F3 := Ao e3
   have y3 := at_of e3
   have t3 := ty F3
   refine ⟨_, false, t3, Hi _ (by simp), ?_⟩
   repeat infer_instance
   refine ⟨_, false, t3, Hi _ (by simp), ?_⟩
   repeat infer_instance
   generalize e4 : s3 ++ [.lst [.bl false, .bl false]] = s4
   have F4 := Ao e4
   have y4 := at_of e4
   refine Bl (F4.at y3) y4 (szl _ (by decide)) ?_
   generalize e5 : s4 ++ [.lst ([.bl false, .bl false] ++ [.bl false, .bl false])] = s5
   have F5 := Ao e5
   have y5 := at_of e5
   have F25 := (F3.trans F4).trans F5
   have t5 := ty F25
   repeat infer_instance
   refine ⟨_, false, t5, Hi _ (by simp), ?_⟩
   repeat infer_instance
   refine ⟨_, false, t5, Hi _ (by simp), ?_⟩
   repeat infer_instance
   generalize e6 : s5 ++ [.lst [.bl false, .bl false]] = s6
   have F6 := Ao e6
   have y6 := at_of e6
   refine Bl (F6.at y5) y6 (szl _ (by decide)) ?_
   generalize e7 : s6 ++ [.lst (([.bl false, .bl false] ++ [.bl false, .bl false]) ++ [.bl false, .bl false])] = s7
   have F7 := Ao e7
   have y7 : af s7 s6.length = some ([false, false, false, false, false, false].map D.bl) := by rw [← e7]; exact An (gg0.trans rfl)
   have F27 := (F25.trans F6).trans F7
   have t7 := ty F27
   repeat infer_instance
   refine ⟨_, true, t7, agj, ck ?_⟩
   repeat infer_instance
   refine ⟨_, true, t7, agk, ck ?_⟩
   repeat infer_instance
   refine agi y7 (by simp) ⟨_, rfl, ck ?_⟩
   repeat infer_instance
   refine agg ?_
   refine bh (Be (gw (w_var rfl ?_)))
   exact ⟨fun h => absurd h g, fun _ => rfl, (F1.trans F2).trans F27⟩
end
section
variable {FF n : Nat} {st s : Sto} {N : Nat} {c c1 : Int}
theorem Lj {call : Or} {F : Nat} {env : DD.Env} {d k v : E} {QF : Fl → Sto → Prop} (h : Wr (Aa tab call v env st) fun y s => Wr (Aa tab call d env s) fun x s => Wr (Aa tab call k env s) fun kk s => ∃ m xs i, x = .loc m ∧ s[m]? = some (.lst xs) ∧ kk = .int i ∧ (0 ≤ i ∧ i < xs.length) ∧ QF (.next env) (s.set m (.lst (xs.set i.toNat y)))) : Wr (ai tab call F (.dput d k v) env st) QF := by
 rw [ai]
 refine Ae (h.imp fun y s h => Ae (h.imp fun x s h => Ae (h.imp fun kk s h => ?_)))
 obtain ⟨m, xs, i, rfl, h1, rfl, h2, q⟩ := h
 have h3 : Az s m = none := by simp only [Az, h1]
 have h4 : dt s m = none := by simp only [dt, h1]
 simp only [h3, h4, h1, if_pos h2]
 exact aq q
theorem tj {xs : List D} {a b : Nat} (ha : a ≤ xs.length) (hb : a + b ≤ xs.length) : cutD xs (some (a : Int)) (some ((a : Int) + (b : Int))) = (xs.drop a).take b := by
 unfold cutD
 have e : ((a : Int) + (b : Int)) = ((a + b : Nat) : Int) := by omega
 rw [e, HT.jj, HT.jj, Nat.min_eq_left ha, Nat.min_eq_left hb]
 congr 1
 omega
theorem agm {xs : List D} {a : Nat} : cutD xs (some (a : Int)) none = xs.drop a := by
 unfold cutD
 rw [HT.jj, HT.Pg, List.take_of_length_le (by simp)]
 by_cases h : a ≤ xs.length
 · rw [Nat.min_eq_left h]
 · rw [Nat.min_eq_right (by omega), List.drop_eq_nil_of_le (Nat.le_refl _), List.drop_eq_nil_of_le (by omega)]
theorem cx {xs : List D} {i : Nat} {d : D} (h : xs[i]? = some d) : L2.atI xs (i : Int) = some d := by
 have hi := (List.getElem?_eq_some_iff.mp h).1
 unfold L2.atI L2.ixN
 rw [if_pos (by omega), if_pos (by omega), Option.bind_some, Int.toNat_natCast]
 exact h
theorem Jb {xs : List D} {m : Int} (h : (xs.length : Int) = m) (h0 : 0 < m) : ∃ y ∈ xs, L2.atI xs (c.fmod m) = some y := by
 have g := Ak (c := c) h0
 have hl : (c.fmod m).toNat < xs.length := by omega
 refine ⟨xs[(c.fmod m).toNat], List.getElem_mem hl, ?_⟩
 have := cx (List.getElem?_eq_getElem hl)
 rwa [Int.toNat_of_nonneg g.1] at this
theorem En (c : Int) {i : Nat} (hi : i < 26) : ((names26 c).map D.str)[i]? = some (.str (nameOf c i)) := by
 unfold names26
 rw [List.map_map, List.getElem?_map, List.getElem?_range hi]
 rfl
theorem Lk (c : Int) : (names26 c).length = 26 := by simp [names26]
structure Ls (s : Sto) (L : Nat) (xss : List (List D)) : Prop where
 five : xss.length = 5
 at_ : ∃ hs : List Nat, s[L]? = some (.lst (hs.map D.loc)) ∧ hs.length = 5 ∧ ∀ (k h : Nat), hs[k]? = some h → ∃ xs, xss[k]? = some xs ∧ s[h]? = some (.lst xs)
 el : ∀ xs ∈ xss, xs.length ≤ 18 ∧ ∀ d ∈ xs, El s 2 d
theorem Ls.mono {L : Nat} {xss : List (List D)} {s' : Sto} (h : Ls s L xss) (F : Fr s s') : Ls s' L xss := by
 obtain ⟨hs, h1, h2, h3⟩ := h.at_
 refine ⟨h.five, ⟨hs, F.at h1, h2, fun k h hk => ?_⟩, fun xs hx => ⟨(h.el xs hx).1, fun d hd => ((h.el xs hx).2 d hd).mono F⟩⟩
 obtain ⟨xs, e1, e2⟩ := h3 k h hk
 exact ⟨xs, e1, F.at e2⟩
theorem Ls.get {L w : Nat} {xss : List (List D)} (h : Ls s L xss) (hw : w < 5) : ∃ l xs, xss[w]? = some xs ∧ s[l]? = some (.lst xs) ∧ ∀ ds, s[L]? = some (.lst ds) → ds[w]? = some (.loc l) := by
 obtain ⟨hs, h1, h2, h3⟩ := h.at_
 have hl : w < hs.length := by omega
 obtain ⟨xs, e1, e2⟩ := h3 w _ (List.getElem?_eq_getElem hl)
 refine ⟨_, xs, e1, e2, fun ds hd => ?_⟩
 rw [h1] at hd
 cases hd
 rw [List.getElem?_map, List.getElem?_eq_getElem hl]
 rfl
theorem Od {L : Nat} {xss : List (List D)} {env : DD.Env} {i : Nat} {Q : D → Sto → Prop} (hv : bw env i = some (.loc L)) (X : Ls s L xss)
    (q : ∀ (s' : Sto) (hs : List Nat), Fr s s' → s.length < s'.length → s'[s.length]? = some (.lst (hs.map D.loc)) → hs.length = 5 → (∀ (k h : Nat), hs[k]? = some h → s.length < h ∧ ∃ xs, xss[k]? = some xs ∧ s'[h]? = some (.lst xs)) → Q (.loc s.length) s') :
    Wr (Aa tab (C FF n) (.comp 0 true 1 [0] [] (.var i) .nil (.bt .listB (.cons (.var 0) .nil))) env s) Q := by
  obtain ⟨hs0, h1, h2, h3⟩ := X.at_
  refine abm ?_
  refine w_var hv ?_
  refine ⟨hs0.map D.loc, some L, fun i ys s' => Fr s s' ∧ s.length < s'.length ∧ ∃ hs : List Nat, ys = hs.map D.loc ∧ hs.length = i ∧ ∀ (k h : Nat), hs[k]? = some h → s.length < h ∧ ∃ xs, xss[k]? = some xs ∧ s'[h]? = some (.lst xs), by simp only [Bi, An h1]; rfl, szl _ (by simp; omega), ?_, ?_, ?_, ?_⟩
  · rintro i ys s' ⟨F, _⟩
    exact Ft (An h1) F
  · exact ⟨.app _, by simp, [], rfl, rfl, by simp⟩
  · rintro j y hy s3 ys ⟨F, hlt, hs, rfl, hlen, hh⟩ hys
    rw [List.getElem?_map] at hy
    cases hj : hs0[j]? with
    | none => rw [hj] at hy; cases hy
    | some l =>
      rw [hj] at hy; cases hy
      obtain ⟨xs, kx, kl⟩ := h3 j l hj
      refine Fv rfl ?_
      repeat infer_instance
      refine Rq (xs := xs) (by simp only [Cn]; exact F.lst (An kl)) ?_
      refine ⟨(Fr.app _).at hys, .inl ⟨_, rfl, ?_⟩⟩
      have F4 : Fr s ((s3 ++ [Cell.lst xs]).set s.length (Cell.lst (hs.map D.loc ++ [D.loc s3.length]))) := (F.trans (.app _)).set (Nat.le_refl _) _
      refine ⟨F4, by simp; omega, hs ++ [s3.length], by simp, by simp [hlen], ?_⟩
      intro k h hk
      rw [List.getElem?_append] at hk
      split at hk
      · obtain ⟨g1, xs', g2, g3⟩ := hh k h hk
        refine ⟨g1, xs', g2, ?_⟩
        rw [List.getElem?_set_ne (by omega)]
        exact (Fr.app _).at g3
      · rename_i hge
        have hk0 : k - hs.length = 0 := by
          cases z : k - hs.length with
          | zero => rfl
          | succ m => rw [z] at hk; simp at hk
        rw [hk0] at hk
        simp at hk
        subst hk
        have : k = j := by omega
        subst this
        refine ⟨hlt, xs, kx, ?_⟩
        rw [List.getElem?_set_ne (by omega)]
        exact gg0.trans rfl
  · rintro s3 ys ⟨F, hlt, hs, rfl, hlen, hh⟩ hys
    rw [List.length_map, h2] at hlen
    exact q s3 hs F hlt hys hlen hh
def By (xs : List D) (k : Nat) (d : D) : List D := xs.take k ++ [d] ++ xs.drop k
theorem Hj {L w : Nat} {xss : List (List D)} {xs : List D} {d : D} {cell : Int} (X : Ls s L xss) (hw : w < 5) (hx : xss[w]? = some xs) (hl : xs.length ≤ 17) (hd : El s 2 d) : Wr (C FF (n + 1) 29 [.loc L, .int w, d, .int cell] s) fun r s' => ∃ L' k, r = .loc L' ∧ k ≤ xs.length ∧ Ls s' L' (xss.set w (By xs k d)) ∧ Fr s s' := by
 refine Ce [some (.loc L), some (.int w), some d, some (.int cell), none, none] (b := Ko) rfl rfl (by decide) rfl ?_
 unfold Ko
 obtain ⟨l, xs', e1, e2, e3⟩ := X.get hw
 rw [hx] at e1; cases e1
 obtain ⟨hs0, h1, h2, h3⟩ := X.at_
 repeat infer_instance
 refine ar (An h1) (cx (e3 _ h1)) ?_
 repeat infer_instance
 refine Jz (An e2) ?_
 repeat infer_instance
 have g := Ak (c := cell) (m := (xs.length : Int) + 1) (by omega)
 refine gg (by omega) ?_
 have hk : ((cell.fmod ((xs.length : Int) + 1)).toNat : Int) = cell.fmod ((xs.length : Int) + 1) := Int.toNat_of_nonneg g.1
 generalize hkk : (cell.fmod ((xs.length : Int) + 1)).toNat = k at hk
 rw [← hk] at g ⊢
 refine ⟨of_decide_eq_true rfl, bh (Be (dj (Od rfl X ?_)))⟩
 intro s1 hs F1 hlt y1 hl1 hh
 obtain ⟨xw, z1, z2⟩ := (hh w _ (List.getElem?_eq_getElem (show w < hs.length by omega))).2
 rw [hx] at z1; cases z1
 have zw : ∀ {s' : Sto}, Fr s1 s' → L2.atI (hs.map D.loc) (w : Int) = some (.loc hs[w]) := fun _ => cx (by rw [List.getElem?_map, List.getElem?_eq_getElem]; rfl)
 refine ⟨of_decide_eq_true rfl, bh (Be (Lj ?_))⟩
 repeat infer_instance
 refine ar (An y1) (zw (.refl _)) ?_
 repeat infer_instance
 refine ⟨_, rfl, ?_⟩
 repeat infer_instance
 refine ip rfl (An z2) ?_
 rw [Nc]
 generalize q2 : s1 ++ [.lst (xs.take k)] = s2
 have F2 := Ao q2
 have y2 := at_of q2
 repeat infer_instance
 generalize q3 : s2 ++ [.lst [d]] = s3
 have F3 := Ao q3
 have y3 := at_of q3
 refine Bl (F3.at y2) y3 (szl _ (by simp; omega)) ?_
 generalize q4 : s3 ++ [.lst (xs.take k ++ [d])] = s4
 have F4 := Ao q4
 have y4 := at_of q4
 have F14 := (F2.trans F3).trans F4
 repeat infer_instance
 refine ar (An (F14.at y1)) (zw (.refl _)) ?_
 repeat infer_instance
 refine ⟨_, rfl, ?_⟩
 repeat infer_instance
 refine ip rfl (An (F14.at z2)) ?_
 rw [agm]
 generalize q5 : s4 ++ [.lst (xs.drop k)] = s5
 have F5 := Ao q5
 have y5 := at_of q5
 refine Bl (F5.at y4) y5 (szl _ (by simp; omega)) ?_
 generalize q6 : s5 ++ [.lst (xs.take k ++ [d] ++ xs.drop k)] = s6
 have F6 := Ao q6
 have y6 := at_of q6
 have F16 := (F14.trans F5).trans F6
 repeat infer_instance
 refine ⟨s.length, hs.map D.loc, w, rfl, F16.at y1, rfl, ⟨by omega, by simp; omega⟩, ?_⟩
 refine bh (Be (gw (w_var rfl ?_)))
 have l16 := F16.len
 have l56 : s5.length < s6.length := (List.getElem?_eq_some_iff.mp y6).1
 have l15 : s1.length ≤ s5.length := (F14.trans F5).len
 have Ff : Fr s (s6.set s.length (.lst ((hs.map D.loc).set (w : Int).toNat (.loc s5.length)))) := (F1.trans F16).set (Nat.le_refl _) _
 refine ⟨s.length, k, rfl, by omega, ⟨by simp [X.five], ⟨hs.set w s5.length, ?_, by simp [hl1], ?_⟩, ?_⟩, Ff⟩
 · rw [Dz (F16.at y1), List.map_set, Int.toNat_natCast]
 · intro j h hj
   rw [List.getElem?_set] at hj
   split at hj
   · rename_i hjw
     split at hj
     · cases hj
       subst hjw
       refine ⟨By xs k d, by rw [List.getElem?_set_self (by rw [X.five]; exact hw)], ?_⟩
       rw [List.getElem?_set_ne (by omega)]; exact y6
     · cases hj
   · rename_i hjw
     obtain ⟨p1, ys, p2, p3⟩ := hh j h hj
     refine ⟨ys, by rw [List.getElem?_set_ne hjw]; exact p2, ?_⟩
     rw [List.getElem?_set_ne (by omega)]; exact F16.at p3
 · intro ys hy
   rcases List.mem_or_eq_of_mem_set hy with hy | rfl
   · exact ⟨(X.el ys hy).1, fun e he => ((X.el ys hy).2 e he).mono Ff⟩
   · have hm := X.el xs (List.mem_of_getElem? hx)
     refine ⟨by unfold By; simp; omega, fun e he => ?_⟩
     unfold By at he
     simp only [List.mem_append, List.mem_singleton] at he
     rcases he with (he | rfl) | he
     · exact (hm.2 e (List.mem_of_mem_take he)).mono Ff
     · exact hd.mono Ff
     · exact (hm.2 e (List.mem_of_mem_drop he)).mono Ff
end
section
variable {FF n : Nat} {st s : Sto} {N : Nat} {c c1 : Int}
theorem jc {α : Type} {xs : List α} {a b k : Nat} (h : a ≤ b) : ((xs.drop k).take a).Sublist ((xs.drop k).take b) := by
 have : (xs.drop k).take a = ((xs.drop k).take b).take a := by rw [List.take_take, Nat.min_eq_left h]
 rw [this]
 exact List.take_sublist _ _
theorem Tj {α : Type} (xs : List α) {a b c d e : Nat} (ha : a ≤ 5) (hb : b ≤ 4) (hc : c ≤ 5) (hd : d ≤ 4) (he : e ≤ 4) : (xs.take a ++ (xs.drop 5).take b ++ (xs.drop 9).take c ++ (xs.drop 14).take d ++ (xs.drop 18).take e ++ xs.drop 22).Sublist xs := by
 have h : xs = xs.take 5 ++ (xs.drop 5).take 4 ++ (xs.drop 9).take 5 ++ (xs.drop 14).take 4 ++ (xs.drop 18).take 4 ++ xs.drop 22 := by
  have s : ∀ k m, (xs.drop k).take m ++ xs.drop (k + m) = xs.drop k := fun k m => by
   rw [← List.drop_drop]; exact List.take_append_drop m (xs.drop k)
  have s0 := s 18 4
  have s1 := s 14 4
  have s2 := s 9 5
  have s3 := s 5 4
  rw [List.append_assoc, s0, List.append_assoc, s1, List.append_assoc, s2, List.append_assoc, s3]
  exact (List.take_append_drop 5 xs).symm
 have a1 : (xs.take a).Sublist (xs.take 5) := by
  have := jc (xs := xs) (k := 0) ha
  simpa using this
 have := ((((a1.append (jc (xs := xs) (k := 5) hb)).append (jc (xs := xs) (k := 9) hc)).append (jc (xs := xs) (k := 14) hd)).append (jc (xs := xs) (k := 18) he)).append (List.Sublist.refl (xs.drop 22))
 rw [← h] at this
 exact this
theorem De {x : Str} (h : Nm x) (k : Nat) : El s k (.str x) := by
 have : x.length ≤ 1000 ∧ ∀ c ∈ x.cps.toList, c < 123 := by
  refine ⟨Nat.le_trans h.hi (by decide), fun c hc => ?_⟩
  obtain ⟨i, rfl⟩ := h.abc c hc
  have := i.isLt
  omega
 cases k <;> simpa [El] using this
theorem Fx (i : Int) (k : Nat) : El s k (.int i) := by cases k <;> simp [El]
def plain (x : Str) : Bool := decide (x.length ≤ 1000) && x.cps.toList.all fun c => decide (c < 123)
theorem Gi {x : Str} (h : plain x = true) (k : Nat) : El s k (.str x) := by
 simp only [plain, Bool.and_eq_true, decide_eq_true_eq, List.all_eq_true] at h
 cases k <;> simpa [El] using h
theorem Cq {ds : List D} {k : Nat} (hl : ds.length ≤ 1000) (h : ∀ e ∈ ds, El s k e) : El s (k + 1) (.tup ds) := by
 simp only [El]; exact ⟨hl, h⟩
theorem agn : plain (Str.ofString "num") = true := by decide +kernel
theorem ago : plain (Str.ofString "thing") = true := by decide +kernel
theorem ll {d : D} (h : Kd d) (k : Nat) : El s k d := by
 rcases h with rfl | rfl
 · exact Gi agn k
 · exact Gi ago k
theorem tm {w : Str × Int × Int} (h : WRow w) (k : Nat) : El s (k + 1) (Aw w) := by
 refine Cq (by simp) ?_
 intro e he
 simp only [List.mem_cons, List.not_mem_nil, or_false] at he
 rcases he with rfl | rfl | rfl
 · exact De h.nm k
 · exact Fx _ k
 · exact Fx _ k
theorem Tn {d : D} (h : gi d) (k : Nat) : El s (k + 2) d := by
 obtain ⟨x, ks, y, rfl, h1, h2, h3, h4, h5⟩ := h
 refine Cq (by simp) ?_
 intro e he
 simp only [List.mem_cons, List.not_mem_nil, or_false] at he
 rcases he with rfl | rfl | rfl
 · exact De h1 _
 · exact Cq (by omega) fun d hd => ll (h2 d hd) k
 · exact ll h5 _
def V0 (c c1 : Int) : Vals := ⟨(names26 c1).take (c.fmod 5).toNat, (List.range ((c.fdiv 5).fmod 4).toNat).map (fun k => (nameOf c1 (5 + k), 0 - (c.fdiv 7).fmod 2, (c.fdiv 63).fmod 2)), ((names26 c1).drop 9).take ((c.fdiv 20).fmod 4).toNat, (List.range ((c.fdiv 80).fmod 4).toNat).map (fun k => (nameOf c1 (14 + k), [W "num", W "thing"].take (1 + c.fmod 2).toNat, W "num")), ((names26 c1).drop 18).take ((c.fdiv 320).fmod 4).toNat⟩
def Vals.five (V : Vals) : List (List D) := [V.nums.map D.str, V.ws.map Aw, V.things.map D.str, V.fs.map Bp, V.arrs.map D.str]
theorem To (c1 : Int) (a b : Nat) (h : a + b ≤ 26) : (List.range b).map (fun k => nameOf c1 (a + k)) = ((names26 c1).drop a).take b := by
 refine List.ext_getElem? fun i => ?_
 by_cases hi : i < b
 · rw [List.getElem?_map, List.getElem?_range hi, List.getElem?_take_of_lt hi, List.getElem?_drop]
   unfold names26
   rw [List.getElem?_map, List.getElem?_range (by omega)]
   rfl
 · rw [List.getElem?_eq_none (by simp; omega), List.getElem?_eq_none (by simp; omega)]
theorem Jc (c c1 : Int) : (V0 c c1).names = (names26 c1).take (c.fmod 5).toNat ++ ((names26 c1).drop 5).take ((c.fdiv 5).fmod 4).toNat ++ ((names26 c1).drop 9).take ((c.fdiv 20).fmod 4).toNat ++ ((names26 c1).drop 14).take ((c.fdiv 80).fmod 4).toNat ++ ((names26 c1).drop 18).take ((c.fdiv 320).fmod 4).toNat := by
 have b5 := Ak (c := c.fdiv 5) (m := 4) (by decide)
 have b80 := Ak (c := c.fdiv 80) (m := 4) (by decide)
 unfold Vals.names V0
 simp only [List.map_map]
 rw [← To c1 5 ((c.fdiv 5).fmod 4).toNat (by omega), ← To c1 14 ((c.fdiv 80).fmod 4).toNat (by omega)]
 rfl
theorem Ll (c c1 : Int) : ((V0 c c1).names ++ (names26 c1).drop 22).Nodup := by
 have b5 := Ak (c := c.fdiv 5) (m := 4) (by decide)
 have b80 := Ak (c := c.fdiv 80) (m := 4) (by decide)
 have b1 := Ak (c := c) (m := 5) (by decide)
 have b20 := Ak (c := c.fdiv 20) (m := 4) (by decide)
 have b320 := Ak (c := c.fdiv 320) (m := 4) (by decide)
 rw [Jc]
 exact (afr c1).sublist (Tj (names26 c1) (by omega) (by omega) (by omega) (by omega) (by omega))
theorem Tp : ∀ (b : Nat) (g : Nat → Str) (lo hi : Int), 1 ≤ hi - lo + 1 → hi - lo + 1 ≤ 3 → b ≤ 3 → 1 ≤ Au ((List.range b).map fun k => (g k, lo, hi)) ∧ Au ((List.range b).map fun k => (g k, lo, hi)) ≤ 27 := by
 intro b g lo hi h1 h3 hb
 generalize hx : hi - lo + 1 = x at h1 h3
 have : x = 1 ∨ x = 2 ∨ x = 3 := by omega
 rcases b with _ | _ | _ | _ | b
 · simp [Au]
 · simp [Au, List.range_succ, hx]; omega
 · simp [Au, List.range_succ, hx]
   rcases this with rfl | rfl | rfl <;> decide
 · simp [Au, List.range_succ, hx]
   rcases this with rfl | rfl | rfl <;> decide
 · omega
theorem Dq (c c1 : Int) : VOk (V0 c c1) := by
 have b5 := Ak (c := c.fdiv 5) (m := 4) (by decide)
 have b7 := Ak (c := c.fdiv 7) (m := 2) (by decide)
 have b63 := Ak (c := c.fdiv 63) (m := 2) (by decide)
 have b2 := Ak (c := c) (m := 2) (by decide)
 have nd := Ll c c1
 have nm : ∀ {xs : List Str}, xs.Sublist (names26 c1) → ∀ x ∈ xs, Nm x := fun h x hx => Sx c1 x (h.subset hx)
 refine ⟨nm (List.take_sublist _ _), ?_, nm ((List.take_sublist _ _).trans (List.drop_sublist _ _)), ?_, nm ((List.take_sublist _ _).trans (List.drop_sublist _ _)), nd.sublist (List.sublist_append_left _ _), ?_, ?_⟩
 · intro w hw
   obtain ⟨k, _, rfl⟩ := List.mem_map.mp hw
   exact ⟨cw _ _, by show 0 - (c.fdiv 7).fmod 2 ≤ (c.fdiv 63).fmod 2; omega, by show (c.fdiv 63).fmod 2 ≤ 0 - (c.fdiv 7).fmod 2 + 60; omega⟩
 · intro f hf
   obtain ⟨k, _, rfl⟩ := List.mem_map.mp hf
   refine ⟨_, _, _, rfl, cw _ _, ?_, ?_, ?_, .inl rfl⟩
   · intro d hd
     have := List.mem_of_mem_take hd
     simp only [List.mem_cons, List.not_mem_nil, or_false] at this
     exact this
   · simp only [List.length_take, List.length_cons, List.length_nil]; omega
   · simp only [List.length_take, List.length_cons, List.length_nil]; omega
 · have := (Tp ((c.fdiv 5).fmod 4).toNat (fun k => nameOf c1 (5 + k)) (0 - (c.fdiv 7).fmod 2) ((c.fdiv 63).fmod 2) (by omega) (by omega) (by omega)).2
   exact Int.le_trans this (by decide)
 · have : (V0 c c1).names.length ≤ 26 := by
    have b1 := Ak (c := c) (m := 5) (by decide)
    have b80 := Ak (c := c.fdiv 80) (m := 4) (by decide)
    have b20 := Ak (c := c.fdiv 20) (m := 4) (by decide)
    have b320 := Ak (c := c.fdiv 320) (m := 4) (by decide)
    rw [Jc]
    simp only [List.length_append, List.length_take, List.length_drop, Lk]
    omega
   omega
theorem Oe {V : Vals} (h : VOk V) : ∀ xs ∈ V.five, ∀ d ∈ xs, El s 2 d := by
 intro xs hx d hd
 simp only [Vals.five, List.mem_cons, List.not_mem_nil, or_false] at hx
 rcases hx with rfl | rfl | rfl | rfl | rfl
 · obtain ⟨x, hx, rfl⟩ := List.mem_map.mp hd
   exact De (h.nums x hx) _
 · obtain ⟨x, hx, rfl⟩ := List.mem_map.mp hd
   exact tm (h.ws x hx) _
 · obtain ⟨x, hx, rfl⟩ := List.mem_map.mp hd
   exact De (h.things x hx) _
 · obtain ⟨x, hx, rfl⟩ := List.mem_map.mp hd
   exact Tn (h.fs x hx) _
 · obtain ⟨x, hx, rfl⟩ := List.mem_map.mp hd
   exact De (h.arrs x hx) _
theorem fe (c c1 : Int) : ∀ xs ∈ (V0 c c1).five, xs.length ≤ 4 := by
 have b1 := Ak (c := c) (m := 5) (by decide)
 have b5 := Ak (c := c.fdiv 5) (m := 4) (by decide)
 have b80 := Ak (c := c.fdiv 80) (m := 4) (by decide)
 have b20 := Ak (c := c.fdiv 20) (m := 4) (by decide)
 have b320 := Ak (c := c.fdiv 320) (m := 4) (by decide)
 intro xs hx
 simp only [Vals.five, V0, List.mem_cons, List.not_mem_nil, or_false] at hx
 rcases hx with rfl | rfl | rfl | rfl | rfl <;> simp only [List.length_map, List.length_take, List.length_drop, List.length_range] <;> omega
end
section
variable {FF n : Nat} {st s : Sto} {N : Nat} {c c1 : Int}
theorem tq (hn : af s N = some ((names26 c1).map D.str)) : Wr (C FF (n + 1) 25 [.int c, .loc N] s) fun y s' => ∃ L, y = .loc L ∧ Ls s' L (V0 c c1).five ∧ Fr s s' := by
 have b1 := Ak (c := c) (m := 5) (by decide)
 have b2 := Ak (c := c) (m := 2) (by decide)
 have b5 := Ak (c := c.fdiv 5) (m := 4) (by decide)
 have b80 := Ak (c := c.fdiv 80) (m := 4) (by decide)
 have b20 := Ak (c := c.fdiv 20) (m := 4) (by decide)
 have b320 := Ak (c := c.fdiv 320) (m := 4) (by decide)
 refine Ce [some (.int c), some (.loc N), none, none] (b := km) rfl rfl (by decide) rfl ?_
 unfold km
 repeat infer_instance
 refine ⟨Br 0 ((c.fdiv 5).fmod 4).toNat, none, fun d => match d with | .int k => some (Aw (nameOf c1 (5 + k.toNat), 0 - (c.fdiv 7).fmod 2, (c.fdiv 63).fmod 2)) | _ => none, ?_, szl _ (by rw [Le]; omega), fun _ _ => rfl, ?_, ?_⟩
 · simp only [Bi, Dt]
   rw [if_pos (by omega)]
   rfl
 · intro d hd s' F
   obtain ⟨j, hj⟩ := List.getElem?_of_mem hd
   obtain ⟨rfl, hj⟩ := iz hj
   refine Fv rfl ?_
   repeat infer_instance
   have h5 : ((names26 c1).map D.str)[5 + j]? = some (.str (nameOf c1 (5 + j))) := En c1 (by omega)
   refine ar (i := 5 + j) (F.lst hn) (by rw [show ((5 : Int) + (j : Int)) = ((5 + j : Nat) : Int) by omega]; exact cx h5) ?_
   repeat infer_instance
   exact ⟨by simp, .refl _⟩
 intro s1 F1 y1
 have e1 : (Br 0 ((c.fdiv 5).fmod 4).toNat).filterMap (fun d => match d with | .int k => some (Aw (nameOf c1 (5 + k.toNat), 0 - (c.fdiv 7).fmod 2, (c.fdiv 63).fmod 2)) | _ => none) = (V0 c c1).ws.map Aw := by
  unfold Br V0
  rw [List.filterMap_map]
  show (List.range _).filterMap (fun k => some (Aw (nameOf c1 (5 + ((0 : Int) + ((k : Nat) : Int)).toNat), 0 - (c.fdiv 7).fmod 2, (c.fdiv 63).fmod 2))) = _
  rw [Di, List.map_map]
  refine List.map_congr_left fun k _ => ?_
  simp
 rw [e1] at y1
 have hn1 := F1.lst hn
 repeat infer_instance
 refine ⟨Br 0 ((c.fdiv 80).fmod 4).toNat, none, fun d => match d with | .int k => some (Bp (nameOf c1 (14 + k.toNat), [W "num", W "thing"].take (1 + c.fmod 2).toNat, W "num")) | _ => none, ?_, szl _ (by rw [Le]; omega), fun _ _ => rfl, ?_, ?_⟩
 · simp only [Bi, Dt]
   rw [if_pos (by omega)]
   rfl
 · intro d hd s' F
   obtain ⟨j, hj⟩ := List.getElem?_of_mem hd
   obtain ⟨rfl, hj⟩ := iz hj
   refine Fv rfl ?_
   repeat infer_instance
   have h5 : ((names26 c1).map D.str)[14 + j]? = some (.str (nameOf c1 (14 + j))) := En c1 (by omega)
   refine ar (i := 14 + j) (F.lst hn1) (by rw [show ((14 : Int) + (j : Int)) = ((14 + j : Nat) : Int) by omega]; exact cx h5) ?_
   repeat infer_instance
   refine ⟨_, rfl, ?_⟩
   repeat infer_instance
   refine acn rfl ?_
   repeat infer_instance
   refine ⟨?_, .refl _⟩
   have t2 : (((1 + c.fmod 2).toNat : Nat) : Int) = 1 + c.fmod 2 := Int.toNat_of_nonneg (by omega)
   have e9 := Nc (xs := [W "num", W "thing"]) (k := (1 + c.fmod 2).toNat)
   rw [t2] at e9
   rw [e9]
   simp only [Int.toNat_natCast]
 intro s2 F2 y2
 have e2 : (Br 0 ((c.fdiv 80).fmod 4).toNat).filterMap (fun d => match d with | .int k => some (Bp (nameOf c1 (14 + k.toNat), [W "num", W "thing"].take (1 + c.fmod 2).toNat, W "num")) | _ => none) = (V0 c c1).fs.map Bp := by
  unfold Br V0
  rw [List.filterMap_map]
  show (List.range _).filterMap (fun k => some (Bp (nameOf c1 (14 + ((0 : Int) + ((k : Nat) : Int)).toNat), [W "num", W "thing"].take (1 + c.fmod 2).toNat, W "num"))) = _
  rw [Di, List.map_map]
  refine List.map_congr_left fun k _ => ?_
  simp
 rw [e2] at y2
 have hn2 := F2.lst hn1
 have l26 : ((names26 c1).map D.str).length = 26 := by rw [List.length_map, Lk]
 have t5 : ((c.fmod 5).toNat : Int) = c.fmod 5 := Int.toNat_of_nonneg b1.1
 have t20 : (((c.fdiv 20).fmod 4).toNat : Int) = (c.fdiv 20).fmod 4 := Int.toNat_of_nonneg b20.1
 have t320 : (((c.fdiv 320).fmod 4).toNat : Int) = (c.fdiv 320).fmod 4 := Int.toNat_of_nonneg b320.1
 have cut0 : cutD ((names26 c1).map D.str) none (some (c.fmod 5)) = (V0 c c1).nums.map D.str := by
  rw [← t5]
  have := Nc (xs := (names26 c1).map D.str) (k := (c.fmod 5).toNat)
  unfold V0
  simp only
  rw [List.map_take]; exact this
 have cut9 : cutD ((names26 c1).map D.str) (some 9) (some (9 + (c.fdiv 20).fmod 4)) = (V0 c c1).things.map D.str := by
  rw [← t20]
  have := tj (xs := (names26 c1).map D.str) (a := 9) (b := ((c.fdiv 20).fmod 4).toNat) (by omega) (by omega)
  unfold V0
  simp only
  rw [List.map_take, List.map_drop]; exact this
 have cut18 : cutD ((names26 c1).map D.str) (some 18) (some (18 + (c.fdiv 320).fmod 4)) = (V0 c c1).arrs.map D.str := by
  rw [← t320]
  have := tj (xs := (names26 c1).map D.str) (a := 18) (b := ((c.fdiv 320).fmod 4).toNat) (by omega) (by omega)
  unfold V0
  simp only
  rw [List.map_take, List.map_drop]; exact this
 repeat infer_instance
 refine ⟨_, rfl, ?_⟩
 repeat infer_instance
 refine ip rfl hn2 ?_
 rw [cut0]
 generalize g3 : s2 ++ [.lst ((V0 c c1).nums.map D.str)] = s3
 have F3 := Ao g3
 have y3 := at_of g3
 repeat infer_instance
 refine ⟨9, rfl, ?_⟩
 repeat infer_instance
 refine ⟨_, rfl, ?_⟩
 repeat infer_instance
 refine ip rfl (F3.lst hn2) ?_
 rw [cut9]
 generalize g4 : s3 ++ [.lst ((V0 c c1).things.map D.str)] = s4
 have F4 := Ao g4
 have y4 := at_of g4
 repeat infer_instance
 refine ⟨18, rfl, ?_⟩
 repeat infer_instance
 refine ⟨_, rfl, ?_⟩
 repeat infer_instance
 refine ip rfl ((F3.trans F4).lst hn2) ?_
 rw [cut18]
 generalize g5 : s4 ++ [.lst ((V0 c c1).arrs.map D.str)] = s5
 have F5 := Ao g5
 have y5 := at_of g5
 repeat infer_instance
 have F6 : ∀ m, Fr s5 (s5 ++ m) := fun m => .app _
 have F26 := (F3.trans F4).trans F5
 refine ⟨s5.length, rfl, ⟨rfl, ⟨[s2.length, s.length, s3.length, s1.length, s4.length], gg0.trans rfl, rfl, ?_⟩, ?_⟩, ((F1.trans F2).trans F26).trans (F6 _)⟩
 · intro k h hk
   rcases k with _ | _ | _ | _ | _ | k
   · cases hk; exact ⟨_, rfl, ((F4.trans F5).trans (F6 _)).at y3⟩
   · cases hk; exact ⟨_, rfl, ((F2.trans F26).trans (F6 _)).at y1⟩
   · cases hk; exact ⟨_, rfl, (F5.trans (F6 _)).at y4⟩
   · cases hk; exact ⟨_, rfl, (F26.trans (F6 _)).at y2⟩
   · cases hk; exact ⟨_, rfl, (F6 _).at y5⟩
   · cases hk
 · intro xs hx
   exact ⟨Nat.le_trans (fe c c1 xs hx) (by decide), Oe (Dq c c1) xs hx⟩
theorem agp : ∀ k : Fin 26, Unicode.upperOf (97 + k.val) = [65 + k.val] := by decide +kernel
theorem agq {x : Str} {f : Nat → Nat → List Nat} {g : Nat → Nat} (h : ∀ c ∈ x.cps.toList, ∀ i, f i c = [g c]) : (placed x f).toList = x.cps.toList.map g := by
 unfold placed
 rw [Array.toList_flatten, Array.toList_mapIdx]
 obtain ⟨⟨xs⟩⟩ := x
 simp only at h ⊢
 have : ∀ (xs : List Nat) (m : Nat), (∀ c ∈ xs, ∀ i, f i c = [g c]) → (List.map Array.toList (List.mapIdx (fun i c => (f (i + m) c).toArray) xs)).flatten = xs.map g := by
  intro xs
  induction xs with
  | nil => intro m h; rfl
  | cons c r ih =>
   intro m h
   rw [List.mapIdx_cons, List.map_cons, List.flatten_cons, List.map_cons, h c (by simp)]
   have := ih (m + 1) (fun c hc => h c (List.mem_cons_of_mem _ hc))
   simp only [show ∀ i, i + (m + 1) = i + 1 + m from fun i => by omega] at this
   rw [this]
   rfl
 have := this xs 0 h
 simpa using this
theorem Of {x : Str} (h : Nm x) : (Txt.upper x).length = x.length ∧ (∀ c ∈ (Txt.upper x).cps.toList, 65 ≤ c ∧ c ≤ 90) := by
 have e : (Txt.upper x).cps.toList = x.cps.toList.map (fun c => c - 32) := by
  refine agq fun c hc i => ?_
  obtain ⟨k, rfl⟩ := h.abc c hc
  rw [agp k]
  have := k.isLt
  congr 1
  omega
 constructor
 · have := congrArg List.length e
   simpa [Str.length] using this
 · rw [e]
   intro c hc
   obtain ⟨d, hd, rfl⟩ := List.mem_map.mp hc
   obtain ⟨k, rfl⟩ := h.abc d hd
   have := k.isLt
   omega
theorem agr {x : Str} (h : Nm x) : Bf (.str (Txt.upper x)) = false := by
 obtain ⟨h1, h2⟩ := Of h
 cases e : Bf (.str (Txt.upper x)) with
 | false => rfl
 | true =>
  have g := Ny e
  have : 1 ≤ (Txt.upper x).cps.toList.length := by have := g.lo; simpa [Str.length] using this
  obtain ⟨c, r, ec⟩ : ∃ c r, (Txt.upper x).cps.toList = c :: r := by
   cases z : (Txt.upper x).cps.toList with
   | nil => rw [z] at this; simp at this
   | cons c r => exact ⟨c, r, rfl⟩
  obtain ⟨k, hk⟩ := g.abc c (by rw [ec]; simp)
  have := h2 c (by rw [ec]; simp)
  omega
end
section
variable {FF n : Nat} {st s : Sto} {N : Nat} {c c1 : Int} {x : Str}
theorem og {Q : D → Sto → Prop} {z : Str} {k : Int} (h : 1 < k ∧ k < 2 ^ 63 ∧ 0 < z.length ∧ z.length * k.toNat ≤ sizeLine) (q : Q (.str (Cs z k.toNat)) st) : Wr (opD .mul (.str z) (.int k) st) Q := ⟨_, _, by simp only [opD]; rw [if_pos h], q⟩
theorem Tq {Q : D → Sto → Prop} {ds : List D} {k : Int} (h : -(2 ^ 63) ≤ k ∧ k < 2 ^ 63 ∧ ds.length * k.toNat ≤ sizeLine) (q : Q (.tup (List.replicate k.toNat ds).flatten) st) : Wr (opD .mul (.tup ds) (.int k) st) Q := ⟨_, _, by simp only [opD]; rw [if_pos h], q⟩
theorem Hk : (Str.ofString "a").length = 1 := by decide +kernel
theorem ags {Q : D → Sto → Prop} {z : Str} (h : (Txt.upper z).length ≤ sizeLine) (q : Q (.str (Txt.upper z)) st) : Wr (mtD .upper (.str z) [] st) Q := ⟨_, _, by simp only [mtD]; rw [if_pos h], q⟩
theorem Lm {l k : Nat} {xs : List D} (h : s[l]? = some (.lst xs)) : El s k (.loc l) := by
 have : ∃ t, Bn s (.loc l) = some (.b t) ∧ (t = "list" ∨ t = "dict") := ⟨_, nj (An h), .inl rfl⟩
 cases k <;> simpa [El] using this
theorem Hl {k : Nat} : El s k .non := by cases k <;> simp [El]
theorem Og {k : Nat} {b : Bool} : El s k (.bl b) := by cases k <;> simp [El]
def Dr : List Str := [Str.ofString "", Cs (Str.ofString "a") 9, Str.ofString "A", Str.ofString "a b", Str.ofString "a1", Str.ofString "a_", Str.ofString "a-", Str.ofString " a", Str.ofString "a\n", Str.ofString "abcdefghi"]
theorem agt : ∀ x ∈ Dr, plain x = true ∧ Bf (.str x) = false := by decide +kernel
theorem agu : plain (Str.ofString "a") = true := by decide +kernel
theorem oh (hn : af s N = some ((names26 c1).map D.str)) : Wr (C FF (n + 1) 26 [.int c, .loc N] s) fun y s' => El s' 1 y ∧ Bf y = false ∧ Fr s s' := by
 refine Ce [some (.int c), some (.loc N), none] (b := Km) rfl rfl (by decide) rfl ?_
 unfold Km
 have nm := cw c1 0
 repeat infer_instance
 refine og ⟨by decide, by decide, by rw [Hk]; decide, by rw [Hk]; exact szl _ (by decide)⟩ ?_
 repeat infer_instance
 generalize g1 : s ++ [.lst [.str (Str.ofString "a")]] = s1
 have F1 := Ao g1
 have y1 := at_of g1
 repeat infer_instance
 have hn0 : ((names26 c1).map D.str)[0]? = some (.str (nameOf c1 0)) := En c1 (by decide)
 refine ar ((F1.trans (.app _)).lst hn) (cx (i := 0) hn0) ⟨rfl, dw (ags (szl _ (by rw [(Of nm).1]; have := nm.hi; omega)) ?_)⟩
 repeat infer_instance
 refine Bl ((Fr.app _).at (gg0.trans rfl)) (gg0.trans rfl) (szl _ (of_decide_eq_true rfl)) ?_
 repeat infer_instance
 generalize hxs : ([D.str (Str.ofString ""), D.str (Cs (Str.ofString "a") (Int.toNat 9)), D.str (Str.ofString "A"), D.str (Str.ofString "a b"), D.str (Str.ofString "a1"), D.str (Str.ofString "a_"), D.non, D.int 5, D.tup [D.str (Str.ofString "a")], D.loc (List.length s), D.bl true, D.str (Str.ofString "a-"), D.str (Str.ofString " a"), D.str (Str.ofString "a\n")] ++ [D.str (Txt.upper (nameOf c1 0)), D.str (Str.ofString "abcdefghi")] : List D) = xs
 have hl : (xs.length : Int) = 16 := by rw [← hxs]; rfl
 obtain ⟨y, hy, ey⟩ := Jb (c := c) hl (by decide)
 refine ar (An (gg0.trans rfl)) ey (Gf (gx ?_))
 have B := agt
 have key : ∀ {s' : Sto}, Fr s1 s' → El s' 1 y ∧ Bf y = false := by
  intro s' F
  rw [← hxs] at hy
  simp only [List.cons_append, List.nil_append, List.mem_cons, List.not_mem_nil, or_false] at hy
  have bad : ∀ x ∈ Dr, El s' 1 (.str x) ∧ Bf (.str x) = false := fun x hx => ⟨Gi (B x hx).1 _, (B x hx).2⟩
  rcases hy with rfl | rfl | rfl | rfl | rfl | rfl | rfl | rfl | rfl | rfl | rfl | rfl | rfl | rfl | rfl | rfl
  · exact bad _ (by simp [Dr])
  · exact bad _ (by simp [Dr])
  · exact bad _ (by simp [Dr])
  · exact bad _ (by simp [Dr])
  · exact bad _ (by simp [Dr])
  · exact bad _ (by simp [Dr])
  · exact ⟨Hl, rfl⟩
  · exact ⟨Fx _ _, rfl⟩
  · exact ⟨Cq (by simp) (by intro e he; rw [List.mem_singleton.mp he]; exact Gi agu _), rfl⟩
  · exact ⟨Lm (F.at y1), rfl⟩
  · exact ⟨Og, rfl⟩
  · exact bad _ (by simp [Dr])
  · exact bad _ (by simp [Dr])
  · exact bad _ (by simp [Dr])
  · obtain ⟨u1, u2⟩ := Of nm
    refine ⟨Gi ?_ _, agr nm⟩
    simp only [plain, Bool.and_eq_true, decide_eq_true_eq, List.all_eq_true]
    exact ⟨by rw [u1]; have := nm.hi; omega, fun c hc => by have := u2 c hc; omega⟩
  · exact bad _ (by simp [Dr])
 have Ff := ((Fr.app (st := s1) [Cell.lst [D.str (Str.ofString ""), D.str (Cs (Str.ofString "a") (Int.toNat 9)), D.str (Str.ofString "A"), D.str (Str.ofString "a b"), D.str (Str.ofString "a1"), D.str (Str.ofString "a_"), D.non, D.int 5, D.tup [D.str (Str.ofString "a")], D.loc (List.length s), D.bl true, D.str (Str.ofString "a-"), D.str (Str.ofString " a"), D.str (Str.ofString "a\n")]]).trans (.app [Cell.lst [D.str (Txt.upper (nameOf c1 0)), D.str (Str.ofString "abcdefghi")]])).trans (.app [Cell.lst xs])
 obtain ⟨k1, k2⟩ := key Ff
 exact ⟨k1, k2, F1.trans Ff⟩
end
section
variable {FF n : Nat} {st s : Sto} {N : Nat} {c c1 : Int} {x : Str}
def bz (B : D → Bool) (s : Sto) (xs : List D) : Prop := ∀ y ∈ xs, El s 2 y ∧ B y = false
theorem bz.app {B : D → Bool} {xs ys : List D} (h : bz B s xs) (k : bz B s ys) : bz B s (xs ++ ys) := fun y hy => by
 rcases List.mem_append.mp hy with hy | hy
 · exact h y hy
 · exact k y hy
theorem bz.cons {B : D → Bool} {y : D} {ys : List D} (h : El s 2 y ∧ B y = false) (k : bz B s ys) : bz B s (y :: ys) := fun z hz => by
 rcases List.mem_cons.mp hz with rfl | hz
 · exact h
 · exact k z hz
theorem bz.nil {B : D → Bool} : bz B s [] := fun z hz => by cases hz
theorem els {k : Nat} {a b c : D} (ha : El s k a) (hb : El s k b) (hc : El s k c) : El s (k + 1) (.tup [a, b, c]) := Cq (by simp) (by
 intro e he
 simp only [List.mem_cons, List.not_mem_nil, or_false] at he
 rcases he with rfl | rfl | rfl
 · exact ha
 · exact hb
 · exact hc)
theorem agv : plain (Str.ofString "0") = true := by decide +kernel
theorem agw (hx : Nm x) (hn : af s N = some ((names26 c1).map D.str)) : Wr (C FF (n + 2) 27 [.int c, .str x, .loc N] s) fun y s' => El s' 2 y ∧ bq y = false ∧ Fr s s' := by
 refine Ce [some (.int c), some (.str x), some (.loc N), none, none] (b := Kn) rfl rfl (by decide) rfl ?_
 unfold Kn
 repeat infer_instance
 generalize (c.fdiv 30).fmod (10 ^ Int.toNat 20) = lo
 have ex : ∀ {s' : Sto} {k : Nat}, El s' k (.str x) := fun {s' k} => De hx k
 have ei : ∀ {s' : Sto} {k : Nat} {i : Int}, El s' k (.int i) := fun {s' k i} => Fx i k
 generalize hA : [D.tup [D.str x, D.int lo, D.int (lo - 1)], D.tup [D.str x, D.int lo, D.int (lo + 61)], D.tup [D.str x, D.int lo]] = A
 have bA : ∀ s' : Sto, bz bq s' A := by
  intro s'
  rw [← hA]
  refine .cons ⟨els ex ei ei, ?_⟩ (.cons ⟨els ex ei ei, ?_⟩ (.cons ⟨Cq (by simp) ?_, rfl⟩ .nil))
  · simp only [bq, decide_eq_false (show ¬ lo ≤ lo - 1 by omega), Bool.false_and, Bool.and_false]
  · simp only [bq, decide_eq_false (show ¬ lo + 61 ≤ lo + 60 by omega), Bool.and_false]
  · intro e he
    simp only [List.mem_cons, List.not_mem_nil, or_false] at he
    rcases he with rfl | rfl
    · exact ex
    · exact ei
 have lA : A.length = 3 := by rw [← hA]; rfl
 generalize g1 : s ++ [.lst A] = s1
 have F1 := Ao g1
 have y1 := at_of g1
 generalize g2 : s1 ++ [.lst [D.str x, D.int 0, D.int 1]] = s2
 have F2 := Ao g2
 have y2 := at_of g2
 generalize hB : [D.tup [D.str x, D.int lo, D.int lo, D.int lo], D.loc (List.length s1), D.str x, D.non] = B
 have bB : ∀ {s' : Sto}, Fr s2 s' → bz bq s' B := by
  intro s' F
  rw [← hB]
  refine .cons ⟨Cq (by simp) ?_, rfl⟩ (.cons ⟨Lm (F.at y2), rfl⟩ (.cons ⟨ex, rfl⟩ (.cons ⟨Hl, rfl⟩ .nil)))
  intro e he
  simp only [List.mem_cons, List.not_mem_nil, or_false] at he
  rcases he with rfl | rfl | rfl | rfl
  · exact ex
  · exact ei
  · exact ei
  · exact ei
 have lB : B.length = 4 := by rw [← hB]; rfl
 generalize g3 : s2 ++ [.lst B] = s3
 have F3 := Ao g3
 have y3 := at_of g3
 refine Bl ((F2.trans F3).at y1) y3 (szl _ (by omega)) ?_
 generalize g4 : s3 ++ [.lst (A ++ B)] = s4
 have F4 := Ao g4
 have y4 := at_of g4
 repeat infer_instance
 generalize hD : [D.tup [D.str x, D.bl true, D.int 1], D.tup [D.str x, D.int 0, D.non], D.tup [D.str x, D.str (Str.ofString "0"), D.int 1], D.tup [D.str x, D.tup [D.int 0, D.int 1], D.tup [D.int 1, D.int 1]], D.tup [D.str x, D.int 0, D.bl false]] = E0
 have bD : ∀ s' : Sto, bz bq s' E0 := by
  intro s'
  rw [← hD]
  have t2 : ∀ i j : Int, El s' 1 (.tup [.int i, .int j]) := fun i j => Cq (by simp) (by
   intro e he
   simp only [List.mem_cons, List.not_mem_nil, or_false] at he
   rcases he with rfl | rfl <;> exact ei)
  exact .cons ⟨els ex Og ei, rfl⟩ (.cons ⟨els ex ei Hl, rfl⟩ (.cons ⟨els ex (Gi agv _) ei, rfl⟩ (.cons ⟨els ex (t2 _ _) (t2 _ _), rfl⟩ (.cons ⟨els ex ei Og, rfl⟩ .nil))))
 have lD : E0.length = 5 := by rw [← hD]; rfl
 generalize g5 : s4 ++ [.lst E0] = s5
 have F5 := Ao g5
 have y5 := at_of g5
 refine Bl (F5.at y4) y5 (szl _ (by simp; omega)) ?_
 generalize g6 : s5 ++ [.lst (A ++ B ++ E0)] = s6
 have F6 := Ao g6
 have y6 := at_of g6
 have F26 := ((F3.trans F4).trans F5).trans F6
 have F06 := (F1.trans F2).trans F26
 repeat infer_instance
 refine (oh (n := n) (F06.lst hn)).imp ?_
 rintro y s7 ⟨k1, k2, F7⟩
 repeat infer_instance
 refine Bl ((F7.trans (.app _)).at y6) (gg0.trans rfl) (szl _ (by simp; omega)) ?_
 repeat infer_instance
 obtain ⟨z, hz, ez⟩ := Jb (xs := A ++ B ++ E0 ++ [D.tup [y, D.int 0, D.int 1]]) (c := c) (m := 13) (by simp; omega) (by decide)
 refine ar (An (gg0.trans rfl)) ez (Gf (gx ?_))
 have Ff := F7.trans ((Fr.app (st := s7) [Cell.lst [D.tup [y, D.int 0, D.int 1]]]).trans (.app [Cell.lst (A ++ B ++ E0 ++ [D.tup [y, D.int 0, D.int 1]])]))
 have Fg := (Fr.app (st := s7) [Cell.lst [D.tup [y, D.int 0, D.int 1]]]).trans (.app [Cell.lst (A ++ B ++ E0 ++ [D.tup [y, D.int 0, D.int 1]])])
 have all := (((bA _).app (bB (F26.trans Ff))).app (bD _)).app (bz.cons (B := bq) (y := D.tup [y, D.int 0, D.int 1]) ⟨els (k1.mono Fg) ei ei, by simp only [bq, k2, Bool.false_and]⟩ .nil)
 obtain ⟨q1, q2⟩ := all z hz
 exact ⟨q1, q2, F06.trans Ff⟩
end
section
variable {FF n : Nat} {st s : Sto} {N : Nat} {c c1 : Int} {x : Str}
def words : List Str := [Str.ofString "num", Str.ofString "array", Str.ofString "number", Str.ofString "Num", Str.ofString "thing"]
theorem agx : ∀ x ∈ words, plain x = true := by decide +kernel
theorem Tr : kindB (W "array") = false := by decide +kernel
theorem agy : kindB (W "number") = false := by decide +kernel
theorem agz : kindB (W "Num") = false := by decide +kernel
theorem aha (hx : Nm x) (hn : af s N = some ((names26 c1).map D.str)) : Wr (C FF (n + 2) 28 [.int c, .str x, .loc N] s) fun y s' => El s' 2 y ∧ Bb y = false ∧ Fr s s' := by
 refine Ce [some (.int c), some (.str x), some (.loc N), none] (b := ko) rfl rfl (by decide) rfl ?_
 unfold ko
 have ex : ∀ {s' : Sto} {k : Nat}, El s' k (.str x) := fun {s' k} => De hx k
 have ew : ∀ {s' : Sto} {k : Nat} {w : Str}, w ∈ words → El s' k (.str w) := fun {s' k w} h => Gi (agx w h) k
 have t1 : ∀ {s' : Sto} {w : Str}, w ∈ words → El s' 1 (.tup [.str w]) := fun {s' w} h => Cq (by simp) (by
  intro e he
  rw [List.mem_singleton.mp he]; exact ew h)
 have en : ∀ {s' : Sto} {k : Nat}, El s' k (W "num") := fun {s' k} => ew (by simp [words])
 have tn : ∀ {s' : Sto}, El s' 1 (.tup [W "num"]) := fun {s'} => t1 (by simp [words])
 have m1 : Str.ofString "array" ∈ words := by simp [words]
 have m2 : Str.ofString "number" ∈ words := by simp [words]
 have m3 : Str.ofString "Num" ∈ words := by simp [words]
 have m4 : Str.ofString "thing" ∈ words := by simp [words]
 repeat infer_instance
 refine Tq ⟨by decide, by decide, szl _ (by decide)⟩ ?_
 repeat infer_instance
 generalize g0 : s ++ [.lst [.str (Str.ofString "num")]] = s0
 have F0 := Ao g0
 have y0 := at_of g0
 repeat infer_instance
 generalize hA : [D.tup [D.str x, D.tup [], D.str (Str.ofString "num")], D.tup [D.str x, D.tup (List.replicate (Int.toNat 4) [D.str (Str.ofString "num")]).flatten, D.str (Str.ofString "num")], D.tup [D.str x, D.loc s.length, D.str (Str.ofString "num")]] = A
 have bA : ∀ {s' : Sto}, Fr s0 s' → bz Bb s' A := by
  intro s' F
  rw [← hA]
  refine .cons ⟨els ex (Cq (by simp) (by simp)) en, ?_⟩ (.cons ⟨els ex (Cq (by simp) ?_) en, ?_⟩ (.cons ⟨els ex (Lm (F.at y0)) en, rfl⟩ .nil))
  · simp [Bb]
  · intro e he
    have : e = W "num" := by
     have h4 : (List.replicate (Int.toNat 4) [W "num"]).flatten = [W "num", W "num", W "num", W "num"] := rfl
     rw [h4] at he
     simpa using he
    rw [this]; exact en
  · have h4 : (List.replicate (Int.toNat 4) [D.str (Str.ofString "num")]).flatten = [W "num", W "num", W "num", W "num"] := rfl
    rw [h4]
    simp [Bb]
 have lA : A.length = 3 := by rw [← hA]; rfl
 generalize g1 : s0 ++ [.lst A] = s1
 have F1 := Ao g1
 have y1 := at_of g1
 generalize hB : [D.tup [D.str x, D.tup [D.str (Str.ofString "num")], D.str (Str.ofString "array")], D.tup [D.str x, D.str (Str.ofString "num"), D.str (Str.ofString "num")]] = B
 have bB : ∀ s' : Sto, bz Bb s' B := by
  intro s'
  rw [← hB]
  refine .cons ⟨els ex tn (ew m1), ?_⟩ (.cons ⟨els ex en en, rfl⟩ .nil)
  have := Tr
  simp only [Bb]
  rw [show kindB (D.str (Str.ofString "array")) = false from this]
  simp
 have lB : B.length = 2 := by rw [← hB]; rfl
 generalize g2 : s1 ++ [.lst B] = s2
 have F2 := Ao g2
 have y2 := at_of g2
 refine Bl (F2.at y1) y2 (szl _ (by omega)) ?_
 generalize g3 : s2 ++ [.lst (A ++ B)] = s3
 have F3 := Ao g3
 have y3 := at_of g3
 repeat infer_instance
 generalize hC : [D.tup [D.str x, D.tup [D.str (Str.ofString "num"), D.str (Str.ofString "array")], D.str (Str.ofString "num")], D.tup [D.str x, D.tup [D.str (Str.ofString "num")]]] = G
 have bC : ∀ s' : Sto, bz Bb s' G := by
  intro s'
  rw [← hC]
  refine .cons ⟨els ex (Cq (by simp) ?_) en, ?_⟩ (.cons ⟨Cq (by simp) ?_, rfl⟩ .nil)
  · intro e he
    simp only [List.mem_cons, List.not_mem_nil, or_false] at he
    rcases he with rfl | rfl
    · exact en
    · exact ew m1
  · simp only [Bb, List.all_cons]
    rw [show kindB (D.str (Str.ofString "array")) = false from Tr]
    simp
  · intro e he
    simp only [List.mem_cons, List.not_mem_nil, or_false] at he
    rcases he with rfl | rfl
    · exact ex
    · exact tn
 have lC : G.length = 2 := by rw [← hC]; rfl
 generalize g4 : s3 ++ [.lst G] = s4
 have F4 := Ao g4
 have y4 := at_of g4
 refine Bl (F4.at y3) y4 (szl _ (by simp; omega)) ?_
 generalize g5 : s4 ++ [.lst (A ++ B ++ G)] = s5
 have F5 := Ao g5
 have y5 := at_of g5
 repeat infer_instance
 generalize g6 : s5 ++ [.lst [D.str x, D.tup [D.str (Str.ofString "num")], D.str (Str.ofString "num")]] = s6
 have F6 := Ao g6
 have y6 := at_of g6
 repeat infer_instance
 generalize hD : [D.loc s5.length, D.str x, D.tup [D.str x, D.tup [D.non], D.str (Str.ofString "num")]] = I0
 have bD : ∀ {s' : Sto}, Fr s6 s' → bz Bb s' I0 := by
  intro s' F
  rw [← hD]
  refine .cons ⟨Lm (F.at y6), rfl⟩ (.cons ⟨ex, rfl⟩ (.cons ⟨els ex (Cq (by simp) ?_) en, ?_⟩ .nil))
  · intro e he
    rw [List.mem_singleton.mp he]; exact Hl
  · simp [Bb, kindB]
 have lD : I0.length = 3 := by rw [← hD]; rfl
 generalize g7 : s6 ++ [.lst I0] = s7
 have F7 := Ao g7
 have y7 := at_of g7
 refine Bl ((F6.trans F7).at y5) y7 (szl _ (by simp; omega)) ?_
 generalize g8 : s7 ++ [.lst (A ++ B ++ G ++ I0)] = s8
 have F8 := Ao g8
 have y8 := at_of g8
 repeat infer_instance
 generalize hE : [D.tup [D.str x, D.tup [D.str (Str.ofString "num")], D.non], D.tup [D.str x, D.tup [D.str (Str.ofString "number")], D.str (Str.ofString "num")]] = J0
 have bE : ∀ s' : Sto, bz Bb s' J0 := by
  intro s'
  rw [← hE]
  refine .cons ⟨els ex tn Hl, ?_⟩ (.cons ⟨els ex (t1 m2) en, ?_⟩ .nil)
  · simp [Bb, kindB]
  · simp only [Bb, List.all_cons]
    rw [show kindB (D.str (Str.ofString "number")) = false from agy]
    simp
 have lE : J0.length = 2 := by rw [← hE]; rfl
 generalize g9 : s8 ++ [.lst J0] = s9
 have F9 := Ao g9
 have y9 := at_of g9
 refine Bl (F9.at y8) y9 (szl _ (by simp; omega)) ?_
 generalize g10 : s9 ++ [.lst (A ++ B ++ G ++ I0 ++ J0)] = s10
 have F10 := Ao g10
 have y10 := at_of g10
 repeat infer_instance
 generalize hF : [D.tup [D.str x, D.tup [D.str (Str.ofString "num")], D.str (Str.ofString "Num")], D.tup [D.str x, D.non, D.str (Str.ofString "thing")]] = K0
 have bF : ∀ s' : Sto, bz Bb s' K0 := by
  intro s'
  rw [← hF]
  refine .cons ⟨els ex tn (ew m3), ?_⟩ (.cons ⟨els ex Hl (ew m4), rfl⟩ .nil)
  simp only [Bb]
  rw [show kindB (D.str (Str.ofString "Num")) = false from agz]
  simp
 have lF : K0.length = 2 := by rw [← hF]; rfl
 generalize g11 : s10 ++ [.lst K0] = s11
 have F11 := Ao g11
 have y11 := at_of g11
 refine Bl (F11.at y10) y11 (szl _ (by simp; omega)) ?_
 generalize g12 : s11 ++ [.lst (A ++ B ++ G ++ I0 ++ J0 ++ K0)] = s12
 have F12 := Ao g12
 have y12 := at_of g12
 have F6c := ((((F7.trans F8).trans F9).trans F10).trans F11).trans F12
 have F0c := (((((F1.trans F2).trans F3).trans F4).trans F5).trans F6).trans F6c
 repeat infer_instance
 refine (oh (n := n) ((F0.trans F0c).lst hn)).imp ?_
 rintro y t7 ⟨k1, k2, G7⟩
 repeat infer_instance
 refine Bl ((G7.trans (.app _)).at y12) (gg0.trans rfl) (szl _ (by simp; omega)) ?_
 repeat infer_instance
 obtain ⟨z, hz, ez⟩ := Jb (xs := A ++ B ++ G ++ I0 ++ J0 ++ K0 ++ [D.tup [y, D.tup [D.str (Str.ofString "num")], D.str (Str.ofString "num")]]) (c := c) (m := 15) (by simp; omega) (by decide)
 refine ar (An (gg0.trans rfl)) ez (Gf (gx ?_))
 have Fg := (Fr.app (st := t7) [Cell.lst [D.tup [y, D.tup [D.str (Str.ofString "num")], D.str (Str.ofString "num")]]]).trans (.app [Cell.lst (A ++ B ++ G ++ I0 ++ J0 ++ K0 ++ [D.tup [y, D.tup [D.str (Str.ofString "num")], D.str (Str.ofString "num")]])])
 have Ff := G7.trans Fg
 have all := ((((((bA (F0c.trans Ff)).app (bB _)).app (bC _)).app (bD (F6c.trans Ff))).app (bE _)).app (bF _)).app (bz.cons (B := Bb) (y := D.tup [y, D.tup [D.str (Str.ofString "num")], D.str (Str.ofString "num")]) ⟨els (k1.mono Fg) tn en, by simp only [Bb, k2, Bool.false_and]⟩ .nil)
 obtain ⟨q1, q2⟩ := all z hz
 exact ⟨q1, q2, (F0.trans F0c).trans Ff⟩
end
section
variable {FF n : Nat} {st s : Sto} {N L : Nat} {c c1 : Int}
def Lc (s : Sto) (L : Nat) (cs : List (Option (List D))) : Prop := ∃ d0 d1 d2 d3 d4 c0 c1 c2 c3 c4, af s L = some [d0, d1, d2, d3, d4] ∧ cs = [c0, c1, c2, c3, c4] ∧ Con s d0 c0 ∧ Con s d1 c1 ∧ Con s d2 c2 ∧ Con s d3 c3 ∧ Con s d4 c4
def Cr (cs : List (Option (List D))) : Prop := ∃ V : Vals, VOk V ∧ cs = V.five.map some
theorem Ts {cs : List (Option (List D))} (X : Lc s L cs) : Wr (C FF (n + 6) 24 [.loc L] s) fun r s' => (Cr cs → r = W "made") ∧ (¬ Cr cs → r = W "bad") ∧ Fr s s' := by
 obtain ⟨d0, d1, d2, d3, d4, c0, c1, c2, c3, c4, hL, rfl, h0, h1, h2, h3, h4⟩ := X
 have e : Cr [c0, c1, c2, c3, c4] ↔ Good c0 c1 c2 c3 c4 := by
  constructor
  · rintro ⟨V, hV, e⟩
    simp only [Vals.five, List.map_cons, List.map_nil, List.cons.injEq] at e
    exact ⟨V, hV, e.1, e.2.1, e.2.2.1, e.2.2.2.1, e.2.2.2.2.1⟩
  · rintro ⟨V, hV, rfl, rfl, rfl, rfl, rfl⟩
    exact ⟨V, hV, rfl⟩
 refine (agl (FF := FF) (n := n) hL h0 h1 h2 h3 h4).imp ?_
 rintro r s' ⟨p1, p2, F⟩
 exact ⟨fun g => p1 (e.mp g), fun g => p2 fun h => g (e.mpr h), F⟩
theorem Ls.lc {xss : List (List D)} (X : Ls s L xss) : Lc s L (xss.map some) := by
 obtain ⟨hs, h1, h2, h3⟩ := X.at_
 obtain ⟨a0, a1, a2, a3, a4, rfl⟩ : ∃ a0 a1 a2 a3 a4, hs = [a0, a1, a2, a3, a4] := by
  match hs, h2 with
  | [a0, a1, a2, a3, a4], _ => exact ⟨_, _, _, _, _, rfl⟩
 obtain ⟨x0, x1, x2, x3, x4, rfl⟩ : ∃ x0 x1 x2 x3 x4, xss = [x0, x1, x2, x3, x4] := by
  match xss, X.five with
  | [x0, x1, x2, x3, x4], _ => exact ⟨_, _, _, _, _, rfl⟩
 have el := X.el
 have con : ∀ (k h : Nat) (xs : List D), [a0, a1, a2, a3, a4][k]? = some h → [x0, x1, x2, x3, x4][k]? = some xs → Con s (.loc h) (some xs) := by
  intro k h xs e1 e2
  obtain ⟨xs', e3, e4⟩ := h3 k h e1
  rw [e2] at e3
  cases e3
  have := el xs (List.mem_of_getElem? e2)
  exact ⟨h, rfl, e4, by omega, this.2⟩
 exact ⟨_, _, _, _, _, _, _, _, _, _, An h1, rfl, con 0 _ _ rfl rfl, con 1 _ _ rfl rfl, con 2 _ _ rfl rfl, con 3 _ _ rfl rfl, con 4 _ _ rfl rfl⟩
theorem some_inj {a b : List (List D)} (h : a.map some = b.map some) : a = b := (List.map_inj_right (fun _ _ e => Option.some.inj e)).mp h
def asks (w : Nat) (d : D) : Bool := if w = 1 then bq d else if w = 3 then Bb d else Bf d
theorem ahb {V : Vals} (hV : VOk V) {w : Nat} {xs : List D} (h : V.five[w]? = some xs) : ∀ d ∈ xs, asks w d = true := by
 have g1 := Hh hV.nums
 have g2 := Th hV.ws hV.prod
 have g3 := Hh hV.things
 have g4 := Ti hV.fs
 have g5 := Hh hV.arrs
 simp only [Cw, Fd, Hf, Bool.and_eq_true, List.all_eq_true] at g1 g2 g3 g4 g5
 rcases w with _ | _ | _ | _ | _ | w
 · cases h; exact g1
 · cases h; exact g2.1
 · cases h; exact g3
 · cases h; exact g4
 · cases h; exact g5
 · cases h
theorem ahc {xss : List (List D)} {w k : Nat} {xs : List D} {d : D} (hw : w < xss.length) (h : asks w d = false) : ¬ Cr ((xss.set w (By xs k d)).map some) := by
 rintro ⟨V, hV, e⟩
 have e := some_inj e
 have := ahb hV (w := w) (xs := By xs k d) (by rw [← e, List.getElem?_set_self hw]) d (by unfold By; simp)
 rw [h] at this; cases this
def keyOf : D → D
 | .tup (a :: _) => a
 | d => d
def times (x : Str) (xs : List D) : Nat := xs.countP fun d => decide (keyOf d = .str x)
def df (x : Str) (xss : List (List D)) : Nat := (xss.map (times x)).sum
theorem Tt (x : Str) : ∀ ys : List Str, times x (ys.map D.str) = ys.count x
 | [] => rfl
 | y :: r => by
  have ih := Tt x r
  unfold times at ih ⊢
  rw [List.map_cons, List.countP_cons, ih, List.count_cons]
  congr 1
  by_cases h : y = x
  · subst h; simp [keyOf]
  · simp [keyOf, h]
theorem Ln (x : Str) : ∀ ys : List (Str × Int × Int), times x (ys.map Aw) = (ys.map (·.1)).count x
 | [] => rfl
 | y :: r => by
  have ih := Ln x r
  unfold times at ih ⊢
  rw [List.map_cons, List.countP_cons, ih, List.map_cons, List.count_cons]
  congr 1
  by_cases h : y.1 = x
  · simp [keyOf, h]
  · simp [keyOf, h]
theorem tu (x : Str) : ∀ ys : List (Str × List D × D), times x (ys.map Bp) = (ys.map (·.1)).count x
 | [] => rfl
 | y :: r => by
  have ih := tu x r
  unfold times at ih ⊢
  rw [List.map_cons, List.countP_cons, ih, List.map_cons, List.count_cons]
  congr 1
  by_cases h : y.1 = x
  · simp [keyOf, h]
  · simp [keyOf, h]
theorem jd (V : Vals) (x : Str) : V.names.count x = df x V.five := by
 unfold Vals.names Vals.five df
 simp only [List.count_append, List.map_cons, List.map_nil, List.sum_cons, List.sum_nil, Tt, Ln, tu]
 omega
theorem ahd (x : Str) (xs : List D) (k : Nat) (d : D) : times x (By xs k d) = times x xs + if keyOf d = .str x then 1 else 0 := by
 unfold times By
 have : xs.countP (fun d => decide (keyOf d = .str x)) = (xs.take k).countP (fun d => decide (keyOf d = .str x)) + (xs.drop k).countP (fun d => decide (keyOf d = .str x)) := by
  rw [← List.countP_append, List.take_append_drop]
 rw [List.countP_append, List.countP_append, this, List.countP_singleton]
 simp only [decide_eq_true_eq]
 omega
theorem Oh (x : Str) : ∀ (xss : List (List D)) (w : Nat) (xs ys : List D), xss[w]? = some xs → df x (xss.set w ys) + times x xs = df x xss + times x ys
 | [], w, xs, ys, h => by simp at h
 | z :: r, 0, xs, ys, h => by
  simp at h
  subst h
  simp [df]
  omega
 | z :: r, w + 1, xs, ys, h => by
  have := Oh x r w xs ys (by simpa using h)
  simp [df] at this ⊢
  omega
theorem Jd (x : Str) {xss : List (List D)} {w k : Nat} {xs : List D} {d : D} (h : xss[w]? = some xs) : df x (xss.set w (By xs k d)) = df x xss + if keyOf d = .str x then 1 else 0 := by
 have := Oh x xss w xs (By xs k d) h
 rw [ahd] at this
 omega
theorem ahe {xss : List (List D)} {x : Str} (h : 2 ≤ df x xss) : ¬ Cr (xss.map some) := by
 rintro ⟨V, hV, e⟩
 have e := some_inj e
 subst e
 rw [← jd] at h
 have := List.nodup_iff_count.mp hV.nd x
 omega
theorem oi {V U : Vals} {x : Str} (h : (V.names ++ [x]).Nodup) (e : ∀ y, df y U.five ≤ df y V.five + if x = y then 1 else 0) : U.names.Nodup := by
 rw [List.nodup_iff_count] at h ⊢
 intro y
 have h1 := h y
 have h2 := e y
 rw [jd]
 rw [List.count_append, jd, List.count_singleton] at h1
 by_cases hx : x = y
 · simp [hx] at h1 h2; omega
 · simp [hx] at h1 h2; omega
end
section
variable {FF n : Nat} {st s : Sto} {N L : Nat} {c c1 : Int}
def je (s : Sto) (y : D) : Prop := ∃ L' cs due, y = .tup [.loc L', W due] ∧ Lc s L' cs ∧ ((due = "made" ∧ Cr cs) ∨ (due = "bad" ∧ ¬ Cr cs))
structure Lx (s : Sto) (H : Nat) (hs : List Nat) (xss : List (List D)) : Prop where
 at_ : s[H]? = some (.lst (hs.map D.loc))
 h5 : hs.length = 5
 x5 : xss.length = 5
 hh : ∀ (k h : Nat), hs[k]? = some h → h ≠ H ∧ ∃ xs, xss[k]? = some xs ∧ s[h]? = some (.lst xs)
theorem Lx.mono {s' : Sto} {H : Nat} {hs : List Nat} {xss : List (List D)} (X : Lx s H hs xss) (F : Fr s s') : Lx s' H hs xss := ⟨F.at X.at_, X.h5, X.x5, fun k h hk => by
 obtain ⟨a, xs, b, e⟩ := X.hh k h hk
 exact ⟨a, xs, b, F.at e⟩⟩
theorem Lx.put {H q w : Nat} {hs : List Nat} {xss : List (List D)} {ys : List D} (X : Lx s H hs xss) (hq : q ≠ H) (yq : s[q]? = some (.lst ys)) (hw : w < 5) : Lx (s.set H (.lst ((hs.map D.loc).set w (.loc q)))) H (hs.set w q) (xss.set w ys) := by
 refine ⟨by rw [Dz X.at_, List.map_set], by simp [X.h5], by simp [X.x5], ?_⟩
 intro k h hk
 rw [List.getElem?_set] at hk
 split at hk
 · rename_i hkw
   split at hk
   · cases hk
     subst hkw
     exact ⟨hq, ys, by rw [List.getElem?_set_self (by rw [X.x5]; exact hw)], by rw [List.getElem?_set_ne (Ne.symm hq)]; exact yq⟩
   · cases hk
 · rename_i hkw
   obtain ⟨a, xs, b, e⟩ := X.hh k h hk
   exact ⟨a, xs, by rw [List.getElem?_set_ne hkw]; exact b, by rw [List.getElem?_set_ne (Ne.symm a)]; exact e⟩
theorem Lx.ls {H : Nat} {hs : List Nat} {xss : List (List D)} (X : Lx s H hs xss) (el : ∀ xs ∈ xss, xs.length ≤ 18 ∧ ∀ d ∈ xs, El s 2 d) : Ls s H xss := ⟨X.x5, ⟨hs, X.at_, X.h5, fun k h hk => (X.hh k h hk).2⟩, el⟩
theorem ahf {a b : Int} {x y : Str} (hx : Nm x) (hy : Nm y) (lo : Int) (ha : 64 ≤ a) (hb : a ≤ 65) : ∀ w ∈ [(x, lo, lo + 59), (y, 5, a)], WRow w := by
 intro w hw
 simp only [List.mem_cons, List.not_mem_nil, or_false] at hw
 rcases hw with rfl | rfl
 · exact ⟨hx, by show lo ≤ lo + 59; omega, by show lo + 59 ≤ lo + 60; omega⟩
 · exact ⟨hy, by show 5 ≤ a; omega, by show a ≤ 5 + 60; omega⟩
theorem ahg {a : Int} {x y z : Str} (hx : Nm x) (hy : Nm y) (hz : Nm z) (lo : Int) (ha : 15 ≤ a) (hb : a ≤ 16) : ∀ w ∈ [(x, lo, lo + 15), (y, 3, 17), (z, 1, a)], WRow w := by
 intro w hw
 simp only [List.mem_cons, List.not_mem_nil, or_false] at hw
 rcases hw with rfl | rfl | rfl
 · exact ⟨hx, by show lo ≤ lo + 15; omega, by show lo + 15 ≤ lo + 60; omega⟩
 · exact ⟨hy, by show (3 : Int) ≤ 17; decide, by show (17 : Int) ≤ 3 + 60; decide⟩
 · exact ⟨hz, by show 1 ≤ a; omega, by show a ≤ 1 + 60; omega⟩
theorem Oi (c1 : Int) : (names26 c1).drop 22 = [nameOf c1 22, nameOf c1 23, nameOf c1 24, nameOf c1 25] := rfl
theorem ahh {ws : List (Str × Int × Int)} (hw : ∀ w ∈ ws, WRow w) (hsub : (ws.map (·.1)).Sublist ((names26 c1).drop 22)) (hl : ws.length ≤ 4) : (Au ws ≤ 3600 → Cr (((V0 c c1).five.set 1 (ws.map Aw)).map some)) ∧ (¬ Au ws ≤ 3600 → ¬ Cr (((V0 c c1).five.set 1 (ws.map Aw)).map some)) := by
 have hV := Dq c c1
 constructor
 · intro hp
   refine ⟨{ V0 c c1 with ws := ws }, ⟨hV.nums, hw, hV.things, hV.fs, hV.arrs, ?_, hp, ?_⟩, rfl⟩
   · have nd := Ll c c1
     rw [List.nodup_iff_count] at nd ⊢
     intro y
     have h1 := nd y
     rw [List.count_append, jd] at h1
     rw [jd]
     have h2 := Oh y (V0 c c1).five 1 ((V0 c c1).ws.map Aw) (ws.map Aw) rfl
     have h3 : Vals.five { V0 c c1 with ws := ws } = (V0 c c1).five.set 1 (ws.map Aw) := rfl
     rw [h3]
     have h4 := hsub.count_le y
     rw [Ln, Ln] at h2
     omega
   · have h1 := hV.len
     have : (V0 c c1).names.length ≤ 26 := by
      have := ((Ll c c1).sublist (List.sublist_append_left _ _))
      have b1 := Ak (c := c) (m := 5) (by decide)
      have b5 := Ak (c := c.fdiv 5) (m := 4) (by decide)
      have b80 := Ak (c := c.fdiv 80) (m := 4) (by decide)
      have b20 := Ak (c := c.fdiv 20) (m := 4) (by decide)
      have b320 := Ak (c := c.fdiv 320) (m := 4) (by decide)
      rw [Jc]
      simp only [List.length_append, List.length_take, List.length_drop, Lk]
      omega
     unfold Vals.names at this ⊢
     simp only [List.length_append, List.length_map] at this ⊢
     omega
 · rintro hp ⟨V, hV', e⟩
   have e := some_inj e
   have e1 : V.five[1]? = some (ws.map Aw) := by rw [← e]; rfl
   have e2 : V.ws.map Aw = ws.map Aw := by
    simp only [Vals.five, List.getElem?_cons_succ, List.getElem?_cons_zero, Option.some.injEq] at e1
    exact e1
   have : Au V.ws = Au ws := by rw [← Hg, ← Hg, e2]
   exact hp (this ▸ hV'.prod)
end
section
variable {FF n : Nat} {st s : Sto} {N L : Nat} {c c1 r : Int}
theorem Lo {a b : D} {c : Int} : L2.atI [a, b] (c.fmod 2) = some (if c.fmod 2 = 0 then a else b) := by
 have h := Ak (c := c) (m := 2) (by decide)
 have : c.fmod 2 = 0 ∨ c.fmod 2 = 1 := by omega
 rcases this with e | e <;> rw [e] <;> rfl
theorem ahi (r : Int) : 240 * (if r.fmod 2 = 0 then (15 : Int) else 16) ≤ 3600 ↔ r.fmod 2 = 0 := by split <;> omega
theorem ahj (r : Int) : 60 * ((if r.fmod 2 = 0 then (64 : Int) else 65) - 4) ≤ 3600 ↔ r.fmod 2 = 0 := by split <;> omega
theorem Tu {H : Nat} {hs : List Nat} {ws : List (Str × Int × Int)} {s' : Sto} (X : Lx s' H hs ((V0 c c1).five.set 1 (ws.map Aw))) (hw : ∀ w ∈ ws, WRow w) (hsub : (ws.map (·.1)).Sublist ((names26 c1).drop 22)) (hl : ws.length ≤ 4) (hp : (Au ws ≤ 3600) ↔ r.fmod 2 = 0) : je s' (.tup [.loc H, if r.fmod 2 = 0 then W "made" else W "bad"]) := by
 obtain ⟨g1, g2⟩ := ahh (c := c) hw hsub hl
 have Y : Ls s' H ((V0 c c1).five.set 1 (ws.map Aw)) := X.ls (by
  intro xs hx
  rcases List.mem_or_eq_of_mem_set hx with hx | rfl
  · exact ⟨Nat.le_trans (fe c c1 xs hx) (by decide), Oe (Dq c c1) xs hx⟩
  · refine ⟨by simp; omega, fun d hd => ?_⟩
    obtain ⟨w, hw', rfl⟩ := List.mem_map.mp hd
    exact tm (hw w hw') _)
 by_cases h : r.fmod 2 = 0
 · rw [if_pos h]
   exact ⟨H, _, "made", rfl, Y.lc, .inl ⟨rfl, g1 (hp.mpr h)⟩⟩
 · rw [if_neg h]
   exact ⟨H, _, "bad", rfl, Y.lc, .inr ⟨rfl, g2 fun z => h (hp.mp z)⟩⟩
theorem ahk (X : Ls s L (V0 c c1).five) (hn : af s N = some ((names26 c1).map D.str)) : Wr (C FF (n + 1) 30 [.loc L, .loc N, .int r] s) fun y s' => je s' y ∧ Fr s s' := by
 refine Ce [some (.loc L), some (.loc N), some (.int r), none, none] (b := Kp) rfl rfl (by decide) rfl ?_
 unfold Kp
 have b2 := Ak (c := r) (m := 2) (by decide)
 refine Be (dj (Od rfl X ?_))
 intro s1 hs F1 hlt y1 hl1 hh
 have X1 : Lx s1 s.length hs (V0 c c1).five := ⟨y1, hl1, rfl, fun k h hk => by
  obtain ⟨a, b⟩ := hh k h hk
  exact ⟨by omega, b⟩⟩
 have hn1 := F1.lst hn
 have h22 : L2.atI ((names26 c1).map D.str) 22 = some (.str (nameOf c1 22)) := cx (i := 22) (En c1 (by decide))
 have h23 : L2.atI ((names26 c1).map D.str) 23 = some (.str (nameOf c1 23)) := cx (i := 23) (En c1 (by decide))
 have h24 : L2.atI ((names26 c1).map D.str) 24 = some (.str (nameOf c1 24)) := cx (i := 24) (En c1 (by decide))
 refine ⟨of_decide_eq_true rfl, ?_⟩
 repeat infer_instance
 generalize (0 : Int) - (r.fdiv 4).fmod (10 ^ Int.toNat 20) = lo
 refine Lj ?_
 repeat infer_instance
 refine ar hn1 h22 ?_
 repeat infer_instance
 refine ar hn1 h23 ?_
 repeat infer_instance
 refine ar (An (gg0.trans rfl)) Lo ?_
 have ea : (if r.fmod 2 = 0 then D.int 64 else D.int 65) = D.int (if r.fmod 2 = 0 then 64 else 65) := by split <;> rfl
 rw [ea]
 generalize hva : (if r.fmod 2 = 0 then (64 : Int) else 65) = va
 have ha : 64 ≤ va ∧ va ≤ 65 := by rw [← hva]; split <;> omega
 generalize g2 : s1 ++ [.lst [D.int 64, D.int 65]] = s2
 have F2 := Ao g2
 repeat infer_instance
 generalize g3 : s2 ++ [.lst [D.tup [D.str (nameOf c1 22), D.int lo, D.int (lo + 59)], D.tup [D.str (nameOf c1 23), D.int 5, D.int va]]] = s3
 have F3 := Ao g3
 have y3 : s3[s2.length]? = some (.lst ([(nameOf c1 22, lo, lo + 59), (nameOf c1 23, 5, va)].map Aw)) := at_of g3
 have X3 := X1.mono (F2.trans F3)
 have l2 := F2.len
 refine ⟨s.length, _, 1, rfl, X3.at_, rfl, ⟨by decide, by rw [List.length_map, hl1]; decide⟩, ?_⟩
 have X4 := X3.put (w := 1) (q := s2.length) (by omega) y3 (by decide)
 have F13 := F2.trans F3
 have F4 : Fr s (s3.set s.length (.lst ((hs.map D.loc).set 1 (.loc s2.length)))) := (F1.trans F13).set (Nat.le_refl _) _
 generalize g4 : s3.set s.length (.lst ((hs.map D.loc).set (Int.toNat 1) (.loc s2.length))) = s4
 have X4 : Lx s4 s.length (hs.set 1 s2.length) ((V0 c c1).five.set 1 ([(nameOf c1 22, lo, lo + 59), (nameOf c1 23, 5, va)].map Aw)) := by rw [← g4]; exact X4
 have F4 : Fr s s4 := by rw [← g4]; exact F4
 have hn4 := F4.lst hn
 have l4 := F4.len
 have l14 : s.length < s4.length := (List.getElem?_eq_some_iff.mp X4.at_).1
 refine bh (Be (Fu ?_))
 repeat infer_instance
 refine ⟨_, rfl, fun h => ?_, fun h => ?_⟩
 · refine Be (Lj ?_)
   repeat infer_instance
   refine ar hn4 h22 ?_
   repeat infer_instance
   refine ar hn4 h23 ?_
   repeat infer_instance
   refine ar hn4 h24 ?_
   repeat infer_instance
   refine ar (An (gg0.trans rfl)) Lo ?_
   have eb : (if r.fmod 2 = 0 then D.int 15 else D.int 16) = D.int (if r.fmod 2 = 0 then 15 else 16) := by split <;> rfl
   rw [eb]
   generalize hvb : (if r.fmod 2 = 0 then (15 : Int) else 16) = vb
   have hb : 15 ≤ vb ∧ vb ≤ 16 := by rw [← hvb]; split <;> omega
   generalize g5 : s4 ++ [.lst [D.int 15, D.int 16]] = s5
   have F5 := Ao g5
   repeat infer_instance
   generalize g6 : s5 ++ [.lst [D.tup [D.str (nameOf c1 22), D.int lo, D.int (lo + 15)], D.tup [D.str (nameOf c1 23), D.int 3, D.int 17], D.tup [D.str (nameOf c1 24), D.int 1, D.int vb]]] = s6
   have F6 := Ao g6
   have y6 : s6[s5.length]? = some (.lst ([(nameOf c1 22, lo, lo + 15), (nameOf c1 23, 3, 17), (nameOf c1 24, 1, vb)].map Aw)) := at_of g6
   have X6 := X4.mono (F5.trans F6)
   have l5 := F5.len
   refine ⟨s.length, _, 1, rfl, X6.at_, rfl, ⟨by decide, by rw [List.length_map, List.length_set, hl1]; decide⟩, ?_⟩
   have X7 := X6.put (w := 1) (q := s5.length) (by omega) y6 (by decide)
   have es : ((V0 c c1).five.set 1 ([(nameOf c1 22, lo, lo + 59), (nameOf c1 23, 5, va)].map Aw)).set 1 ([(nameOf c1 22, lo, lo + 15), (nameOf c1 23, 3, 17), (nameOf c1 24, 1, vb)].map Aw) = (V0 c c1).five.set 1 ([(nameOf c1 22, lo, lo + 15), (nameOf c1 23, 3, 17), (nameOf c1 24, 1, vb)].map Aw) := List.set_set ..
   rw [es] at X7
   have F7 : Fr s (s6.set s.length (.lst (((hs.set 1 s2.length).map D.loc).set 1 (.loc s5.length)))) := ((F4.trans F5).trans F6).set (Nat.le_refl _) _
   generalize g7 : s6.set s.length (.lst (((hs.set 1 s2.length).map D.loc).set (Int.toNat 1) (.loc s5.length))) = s7
   have X7 : Lx s7 s.length ((hs.set 1 s2.length).set 1 s5.length) ((V0 c c1).five.set 1 ([(nameOf c1 22, lo, lo + 15), (nameOf c1 23, 3, 17), (nameOf c1 24, 1, vb)].map Aw)) := by rw [← g7]; exact X7
   have F7 : Fr s s7 := by rw [← g7]; exact F7
   repeat infer_instance
   refine ar (An (gg0.trans rfl)) Lo ?_
   repeat infer_instance
   refine ⟨Tu (X7.mono (.app _)) (ahg (cw _ _) (cw _ _) (cw _ _) lo hb.1 hb.2) ?_ (of_decide_eq_true rfl) ?_, F7.trans (.app _)⟩
   · rw [Oi]
     exact List.take_sublist 3 [nameOf c1 22, nameOf c1 23, nameOf c1 24, nameOf c1 25]
   · have e : Au [(nameOf c1 22, lo, lo + 15), (nameOf c1 23, 3, 17), (nameOf c1 24, 1, vb)] = 240 * vb := by
      simp only [Au, List.foldl_cons, List.foldl_nil]
      rw [show lo + 15 - lo + 1 = 16 by omega]
      omega
     rw [e, ← hvb]
     exact ahi r
 · repeat infer_instance
   refine ar (An (gg0.trans rfl)) Lo ?_
   repeat infer_instance
   refine ⟨Tu (X4.mono (.app _)) (ahf (b := 0) (cw _ _) (cw _ _) lo ha.1 ha.2) ?_ (of_decide_eq_true rfl) ?_, F4.trans (.app _)⟩
   · rw [Oi]
     exact List.take_sublist 2 [nameOf c1 22, nameOf c1 23, nameOf c1 24, nameOf c1 25]
   · have e : Au [(nameOf c1 22, lo, lo + 59), (nameOf c1 23, 5, va)] = 60 * (va - 4) := by
      simp only [Au, List.foldl_cons, List.foldl_nil]
      rw [show lo + 59 - lo + 1 = 60 by omega]
      omega
     rw [e, ← hva]
     exact ahj r
end
section
variable {FF n : Nat} {st s : Sto} {N L : Nat} {c c1 r : Int}
theorem oj (c c1 : Int) : (V0 c c1).names.length ≤ 26 := by
 have b1 := Ak (c := c) (m := 5) (by decide)
 have b5 := Ak (c := c.fdiv 5) (m := 4) (by decide)
 have b80 := Ak (c := c.fdiv 80) (m := 4) (by decide)
 have b20 := Ak (c := c.fdiv 20) (m := 4) (by decide)
 have b320 := Ak (c := c.fdiv 320) (m := 4) (by decide)
 rw [Jc]
 simp only [List.length_append, List.length_take, List.length_drop, Lk]
 omega
theorem Tv (c c1 : Int) : ((V0 c c1).names ++ [nameOf c1 24]).Nodup := by
 refine (Ll c c1).sublist (List.Sublist.append (List.Sublist.refl _) ?_)
 rw [Oi]
 exact List.singleton_sublist.mpr (by simp)
theorem ahl (ws : List (Str × Int × Int)) (z : Int) : ws.foldl (fun a w => a * (w.2.2 - w.2.1 + 1)) z = z * Au ws := by
 induction ws generalizing z with
 | nil => simp [Au]
 | cons w r ih =>
  unfold Au
  rw [List.foldl_cons, List.foldl_cons, ih, ih, Int.one_mul, Int.mul_assoc]
theorem Oj (a b : List (Str × Int × Int)) : Au (a ++ b) = Au a * Au b := by
 have := ahl b (Au a)
 unfold Au at this ⊢
 rw [List.foldl_append, this]
theorem ins_map {α : Type} (f : α → D) (xs : List α) (k : Nat) (x : α) : By (xs.map f) k (f x) = (xs.take k ++ [x] ++ xs.drop k).map f := by
 unfold By
 rw [List.map_append, List.map_append, List.map_take, List.map_drop]
 rfl
theorem good0 {x : Str} (hx : Nm x) (hn : x ∉ (V0 c c1).names) (k : Nat) : Cr (((V0 c c1).five.set 0 (By ((V0 c c1).nums.map D.str) k (.str x))).map some) := by
 have hV := Dq c c1
 have hlen := oj c c1
 rw [ins_map]
 refine ⟨{ V0 c c1 with nums := (V0 c c1).nums.take k ++ [x] ++ (V0 c c1).nums.drop k }, ⟨?_, hV.ws, hV.things, hV.fs, hV.arrs, ?_, hV.prod, ?_⟩, rfl⟩
 · intro y hy
   simp only [List.mem_append, List.mem_singleton] at hy
   rcases hy with (hy | rfl) | hy
   · exact hV.nums y (List.mem_of_mem_take hy)
   · exact hx
   · exact hV.nums y (List.mem_of_mem_drop hy)
 · refine oi (V := V0 c c1) (x := x) ?_ fun y => ?_
   · rw [List.nodup_append]
     exact ⟨hV.nd, by simp, fun a ha b hb e => hn (by simp at hb; rw [← hb, ← e]; exact ha)⟩
   · have := Jd y (xss := (V0 c c1).five) (w := 0) (k := k) (d := .str x) rfl
     rw [ins_map] at this
     show df y ((V0 c c1).five.set 0 _) ≤ _
     rw [this]
     simp only [keyOf, D.str.injEq]
     exact Nat.le_refl _
 · unfold Vals.names at hlen ⊢
   simp only [List.length_append, List.length_map, List.length_take, List.length_drop, List.length_singleton] at hlen ⊢
   omega
theorem ahm {lo hi : Int} (h1 : lo ≤ hi) (h2 : hi ≤ lo + 60) (k : Nat) : Cr (((V0 c c1).five.set 1 (By ((V0 c c1).ws.map Aw) k (Aw (nameOf c1 24, lo, hi)))).map some) := by
 have hV := Dq c c1
 have hlen := oj c c1
 have b5 := Ak (c := c.fdiv 5) (m := 4) (by decide)
 have b7 := Ak (c := c.fdiv 7) (m := 2) (by decide)
 have b63 := Ak (c := c.fdiv 63) (m := 2) (by decide)
 rw [ins_map]
 refine ⟨{ V0 c c1 with ws := (V0 c c1).ws.take k ++ [(nameOf c1 24, lo, hi)] ++ (V0 c c1).ws.drop k }, ⟨hV.nums, ?_, hV.things, hV.fs, hV.arrs, ?_, ?_, ?_⟩, rfl⟩
 · intro y hy
   simp only [List.mem_append, List.mem_singleton] at hy
   rcases hy with (hy | rfl) | hy
   · exact hV.ws y (List.mem_of_mem_take hy)
   · exact ⟨cw _ _, h1, h2⟩
   · exact hV.ws y (List.mem_of_mem_drop hy)
 · refine oi (V := V0 c c1) (x := nameOf c1 24) (Tv c c1) fun y => ?_
   have := Jd y (xss := (V0 c c1).five) (w := 1) (k := k) (d := Aw (nameOf c1 24, lo, hi)) rfl
   rw [ins_map] at this
   show df y ((V0 c c1).five.set 1 _) ≤ _
   rw [this]
   simp only [keyOf, D.str.injEq]
   exact Nat.le_refl _
 · have p := Tp ((c.fdiv 5).fmod 4).toNat (fun k => nameOf c1 (5 + k)) (0 - (c.fdiv 7).fmod 2) ((c.fdiv 63).fmod 2) (by omega) (by omega) (by omega)
   have p : 1 ≤ Au (V0 c c1).ws ∧ Au (V0 c c1).ws ≤ 27 := p
   have e : Au ((V0 c c1).ws.take k ++ [(nameOf c1 24, lo, hi)] ++ (V0 c c1).ws.drop k) = Au (V0 c c1).ws * (hi - lo + 1) := by
    have e0 : Au (V0 c c1).ws = Au ((V0 c c1).ws.take k) * Au ((V0 c c1).ws.drop k) := by rw [← Oj, List.take_append_drop]
    have e1 : Au [(nameOf c1 24, lo, hi)] = hi - lo + 1 := by simp [Au]
    rw [Oj, Oj, e0, e1, Int.mul_assoc, Int.mul_assoc, Int.mul_comm (hi - lo + 1)]
   show Au ((V0 c c1).ws.take k ++ [(nameOf c1 24, lo, hi)] ++ (V0 c c1).ws.drop k) ≤ 3600
   rw [e]
   have q1 : hi - lo + 1 ≤ 61 := by omega
   have q2 := Int.mul_le_mul p.2 q1 (by omega) (by decide)
   omega
 · unfold Vals.names at hlen ⊢
   simp only [List.length_append, List.length_map, List.length_take, List.length_drop, List.length_singleton] at hlen ⊢
   omega
theorem good3 {ks : List D} {y : D} (hf : gi (Bp (nameOf c1 24, ks, y))) (k : Nat) : Cr (((V0 c c1).five.set 3 (By ((V0 c c1).fs.map Bp) k (Bp (nameOf c1 24, ks, y)))).map some) := by
 have hV := Dq c c1
 have hlen := oj c c1
 rw [ins_map]
 refine ⟨{ V0 c c1 with fs := (V0 c c1).fs.take k ++ [(nameOf c1 24, ks, y)] ++ (V0 c c1).fs.drop k }, ⟨hV.nums, hV.ws, hV.things, ?_, hV.arrs, ?_, hV.prod, ?_⟩, rfl⟩
 · intro z hz
   simp only [List.mem_append, List.mem_singleton] at hz
   rcases hz with (hz | rfl) | hz
   · exact hV.fs z (List.mem_of_mem_take hz)
   · exact hf
   · exact hV.fs z (List.mem_of_mem_drop hz)
 · refine oi (V := V0 c c1) (x := nameOf c1 24) (Tv c c1) fun z => ?_
   have := Jd z (xss := (V0 c c1).five) (w := 3) (k := k) (d := Bp (nameOf c1 24, ks, y)) rfl
   rw [ins_map] at this
   show df z ((V0 c c1).five.set 3 _) ≤ _
   rw [this]
   simp only [keyOf, D.str.injEq]
   exact Nat.le_refl _
 · unfold Vals.names at hlen ⊢
   simp only [List.length_append, List.length_map, List.length_take, List.length_drop, List.length_singleton] at hlen ⊢
   omega
theorem Ol : Nm (Cs (Str.ofString "a") 8) := Ny (by decide +kernel)
theorem ahn (c c1 : Int) : ∀ x ∈ (V0 c c1).names, x ∈ names26 c1 := by
 have b5 := Ak (c := c.fdiv 5) (m := 4) (by decide)
 have b80 := Ak (c := c.fdiv 80) (m := 4) (by decide)
 have b1 := Ak (c := c) (m := 5) (by decide)
 have b20 := Ak (c := c.fdiv 20) (m := 4) (by decide)
 have b320 := Ak (c := c.fdiv 320) (m := 4) (by decide)
 intro x hx
 rw [Jc] at hx
 exact (Tj (names26 c1) (by omega) (by omega) (by omega) (by omega) (by omega)).subset (List.mem_append_left _ hx)
end
section
variable {FF n : Nat} {st s : Sto} {N L : Nat} {c c1 r cc wy : Int} {w : Nat}
abbrev Fe (L N : Nat) (cc wy r : Int) (w : Nat) : DD.Env := [some (.loc L), some (.loc N), some (.int cc), some (.int wy), some (.int r), some (.int (w : Int)), none, none, none, none, none, none, none]
abbrev Kc (s : Sto) (f : Fl) (s' : Sto) : Prop := ∃ y, f = .ret y ∧ je s' y ∧ Fr s s'
def dm : S → Ss
 | .ifS _ a _ => a
 | _ => .nil
def nth : Nat → Ss → S
 | 0, .cons s _ => s
 | n + 1, .cons _ r => nth n r
 | _, .nil => .pass
def lp : Nat → Ss → Ss
 | 0, r => r
 | n + 1, .cons _ r => lp n r
 | _, .nil => .nil
def B0 : Ss := dm (nth 3 Bm)
def B1 : Ss := dm (nth 4 Bm)
def B2 : Ss := dm (nth 5 Bm)
def B3 : Ss := dm (nth 6 Bm)
def B4 : Ss := dm (nth 7 Bm)
def B5 : Ss := dm (nth 8 Bm)
def B6 : Ss := lp 9 Bm
theorem tw {H : Nat} {a b : List D} {s' : Sto} (g : s.set H (.lst b) = s') (hH : s[H]? = some (.lst a)) : ∀ {k : Nat} {d : D}, El s k d → El s' k d
 | k, .str x, h => by cases k <;> simpa [El] using h
 | k, .non, h => by cases k <;> simp [El]
 | k, .bl b, h => by cases k <;> simp [El]
 | k, .int b, h => by cases k <;> simp [El]
 | k, .loc m, h => by
  obtain ⟨t, e, ht⟩ := h.loc
  have : Bn s' (.loc m) = some (.b t) := by
   simp only [Bn] at e ⊢
   by_cases hm : H = m
   · subst hm
     rw [← g, Dz hH]
     rw [hH] at e
     exact e
   · rw [← g, List.getElem?_set_ne hm]; exact e
  cases k <;> (simp only [El]; exact ⟨t, this, ht⟩)
 | 0, .tup ds, h => by simp [El] at h
 | k + 1, .tup ds, h => by
  obtain ⟨h1, h2⟩ := h.tup
  simp only [El]
  exact ⟨h1, fun e he => tw g hH (h2 e he)⟩
theorem aho {H : Nat} {hs : List Nat} {xss : List (List D)} {y : D} (X : Lx s H hs xss) (el : ∀ xs ∈ xss, xs.length ≤ 18 ∧ ∀ d ∈ xs, El s 2 d) (hw : w < 5) {s' : Sto} (hs' : s' = s.set H (.lst ((hs.map D.loc).set w y))) (F : ∀ {k d}, El s k d → El s' k d) (hc : Con s' y none) : Lc s' H ((xss.map some).set w none) := by
 have h5 := X.h5
 have x5 := X.x5
 obtain ⟨a0, a1, a2, a3, a4, rfl⟩ : ∃ a0 a1 a2 a3 a4, hs = [a0, a1, a2, a3, a4] := by
  match hs, h5 with
  | [a0, a1, a2, a3, a4], _ => exact ⟨_, _, _, _, _, rfl⟩
 obtain ⟨x0, x1, x2, x3, x4, rfl⟩ : ∃ x0 x1 x2 x3 x4, xss = [x0, x1, x2, x3, x4] := by
  match xss, x5 with
  | [x0, x1, x2, x3, x4], _ => exact ⟨_, _, _, _, _, rfl⟩
 have at_ : s'[H]? = some (.lst (([a0, a1, a2, a3, a4].map D.loc).set w y)) := by rw [hs']; exact Dz X.at_ _
 have con : ∀ (k h : Nat) (xs : List D), [a0, a1, a2, a3, a4][k]? = some h → [x0, x1, x2, x3, x4][k]? = some xs → Con s' (.loc h) (some xs) := by
  intro k h xs e1 e2
  obtain ⟨hne, xs', e3, e4⟩ := X.hh k h e1
  rw [e2] at e3
  cases e3
  have := el xs (List.mem_of_getElem? e2)
  exact ⟨h, rfl, by rw [hs', List.getElem?_set_ne (Ne.symm hne)]; exact e4, by omega, fun e he => F (this.2 e he)⟩
 have C0 := con 0 _ _ rfl rfl
 have C1 := con 1 _ _ rfl rfl
 have C2 := con 2 _ _ rfl rfl
 have C3 := con 3 _ _ rfl rfl
 have C4 := con 4 _ _ rfl rfl
 have la := An at_
 rcases w with _ | _ | _ | _ | _ | w
 · exact ⟨_, _, _, _, _, _, _, _, _, _, la, rfl, hc, C1, C2, C3, C4⟩
 · exact ⟨_, _, _, _, _, _, _, _, _, _, la, rfl, C0, hc, C2, C3, C4⟩
 · exact ⟨_, _, _, _, _, _, _, _, _, _, la, rfl, C0, C1, hc, C3, C4⟩
 · exact ⟨_, _, _, _, _, _, _, _, _, _, la, rfl, C0, C1, C2, hc, C4⟩
 · exact ⟨_, _, _, _, _, _, _, _, _, _, la, rfl, C0, C1, C2, C3, hc⟩
 · omega
theorem ahp {cs : List (Option (List D))} (hw : w < cs.length) : ¬ Cr (cs.set w none) := by
 rintro ⟨V, hV, e⟩
 have : (cs.set w none)[w]? = some none := by rw [List.getElem?_set_self hw]
 rw [e, List.getElem?_map] at this
 cases z : V.five[w]? with
 | none => rw [z] at this; cases this
 | some xs => rw [z] at this; cases this
theorem ahq (X : Ls s L (V0 c c1).five) (hw : w < 5) : Wr (ag tab (C FF n) FF B0 (Fe L N cc wy r w) s) (Kc s) := by
 unfold B0 Bm
 simp only [nth, dm]
 obtain ⟨l, xs, e1, e2, e3⟩ := X.get hw
 refine Be (dj (Od rfl X ?_))
 intro s1 hs F1 hlt y1 hl1 hh
 have X1 : Lx s1 s.length hs (V0 c c1).five := ⟨y1, hl1, rfl, fun k h hk => by
  obtain ⟨a, b⟩ := hh k h hk
  exact ⟨by omega, b⟩⟩
 obtain ⟨hs0, h1, h2, h3⟩ := X.at_
 refine ⟨of_decide_eq_true rfl, bh (Be (Lj ?_))⟩
 repeat infer_instance
 refine ar (F1.lst (An h1)) (cx (e3 _ h1)) ?_
 refine dw (ach (Su (F1.at e2)) ?_)
 repeat infer_instance
 generalize g2 : s1 ++ [.dct []] = s2
 have F2 := Ao g2
 have y2 := at_of g2
 generalize hA : [D.tup xs, D.non, D.loc s1.length, D.str (Str.ofString "a"), D.int 0] = A
 have lA : (A.length : Int) = 5 := by rw [← hA]; rfl
 obtain ⟨y, hy, ey⟩ := Jb (c := r.fdiv 5) lA (by decide)
 refine ar (An (gg0.trans rfl)) ey ?_
 generalize g3 : s2 ++ [.lst A] = s3
 have F3 := Ao g3
 have F13 := F2.trans F3
 have X3 := X1.mono F13
 repeat infer_instance
 refine ⟨s.length, _, w, rfl, X3.at_, rfl, ⟨by omega, by rw [List.length_map, hl1]; omega⟩, ?_⟩
 rw [Int.toNat_natCast]
 generalize g4 : s3.set s.length (.lst ((hs.map D.loc).set w y)) = s4
 have F4 : Fr s s4 := by rw [← g4]; exact (F1.trans F13).set (Nat.le_refl _) _
 have ne : s1.length ≠ s.length := by omega
 have y4 : s4[s1.length]? = some (.dct []) := by rw [← g4, List.getElem?_set_ne (Ne.symm ne)]; exact F3.at y2
 refine bh (Be (gw (Nd (Ea (w_var rfl (Ea (Cu (dw ⟨szl _ (of_decide_eq_true rfl), ?_⟩))))))))
 refine Gf ⟨_, rfl, ⟨s.length, _, "bad", rfl, ?_, .inr ⟨rfl, ahp (w := w) (cs := (V0 c c1).five.map some) (by rw [List.length_map]; exact hw)⟩⟩, F4⟩
 have con : Con s4 y none := by
  rw [← hA] at hy
  simp only [List.mem_cons, List.not_mem_nil, or_false] at hy
  rcases hy with rfl | rfl | rfl | rfl | rfl
  · exact ⟨_, rfl, by decide, by decide⟩
  · exact ⟨_, rfl, by decide, by decide⟩
  · exact ⟨"dict", by simp only [Bn, y4, Option.bind_some, me], by decide, by decide⟩
  · exact ⟨_, rfl, by decide, by decide⟩
  · exact ⟨_, rfl, by decide, by decide⟩
 exact aho X3 (fun xs hx => ⟨Nat.le_trans (fe c c1 xs hx) (by decide), Oe (Dq c c1) xs hx⟩) hw g4.symm (fun h => tw g4 X3.at_ h) con
end
section
variable {FF n : Nat} {st s : Sto} {N L : Nat} {c c1 r cc wy : Int} {w : Nat}
theorem Tw {k m : Nat} {x : Str} (h : El s k (.str x)) : El s m (.str x) := by
 have := h.str
 cases m <;> simpa [El] using this
theorem Tx {k m l : Nat} (h : El s k (.loc l)) : El s m (.loc l) := by
 have := h.loc
 cases m <;> simpa [El] using this
theorem Tz {m : Int} : ∃ w : Nat, L2.atI [D.int 0, D.int 2, D.int 4] (m.fmod 3) = some (.int (w : Int)) ∧ w < 5 ∧ ∀ d, asks w d = Bf d := by
 have h := Ak (c := m) (m := 3) (by decide)
 have : m.fmod 3 = 0 ∨ m.fmod 3 = 1 ∨ m.fmod 3 = 2 := by omega
 rcases this with e | e | e <;> rw [e]
 · exact ⟨0, rfl, by decide, fun d => rfl⟩
 · exact ⟨2, rfl, by decide, fun d => rfl⟩
 · exact ⟨4, rfl, by decide, fun d => rfl⟩
theorem ua (c c1 : Int) (hw : w < 5) : ∃ xs, (V0 c c1).five[w]? = some xs ∧ xs.length ≤ 4 := by
 have h5 : (V0 c c1).five.length = 5 := rfl
 have hl : w < (V0 c c1).five.length := by omega
 exact ⟨_, List.getElem?_eq_getElem hl, fe c c1 _ (List.getElem_mem hl)⟩
theorem om {d : D} {cell : Int} (X : Ls s L (V0 c c1).five) (hw : w < 5) (hd : El s 2 d) (ha : asks w d = false) : Wr (C FF (n + 1) 29 [.loc L, .int w, d, .int cell] s) fun y s' => ∃ L' cs, y = .loc L' ∧ Lc s' L' cs ∧ ¬ Cr cs ∧ Fr s s' := by
 obtain ⟨xs, e1, e2⟩ := ua c c1 hw
 refine (Hj (FF := FF) (n := n) X hw e1 (by omega) hd).imp ?_
 rintro _ s' ⟨L', k, rfl, _, Y, F⟩
 exact ⟨L', _, rfl, Y.lc, ahc (by show w < 5; exact hw) ha, F⟩
theorem Lp {L' : Nat} {cs : List (Option (List D))} {s' : Sto} (Y : Lc s' L' cs) (g : ¬ Cr cs) (F : Fr s s') : Kc s (.ret (.tup [.loc L', W "bad"])) s' := ⟨_, rfl, ⟨L', cs, "bad", rfl, Y, .inr ⟨rfl, g⟩⟩, F⟩
theorem lq {L' : Nat} {cs : List (Option (List D))} {s' : Sto} (Y : Lc s' L' cs) (g : Cr cs) (F : Fr s s') : Kc s (.ret (.tup [.loc L', W "made"])) s' := ⟨_, rfl, ⟨L', cs, "made", rfl, Y, .inl ⟨rfl, g⟩⟩, F⟩
theorem ahr (X : Ls s L (V0 c c1).five) (hn : af s N = some ((names26 c1).map D.str)) : Wr (ag tab (C FF (n + 1)) FF B1 (Fe L N cc wy r w) s) (Kc s) := by
 unfold B1 Bm
 simp only [nth, dm]
 obtain ⟨v, ev, hv, av⟩ := Tz (m := r)
 repeat infer_instance
 refine ar (An (gg0.trans rfl)) ev ?_
 generalize g1 : s ++ [.lst [.int 0, .int 2, .int 4]] = s1
 have F1 := Ao g1
 repeat infer_instance
 refine (oh (n := n) (F1.lst hn)).imp ?_
 rintro y s2 ⟨k1, k2, F2⟩
 have F2 := F1.trans F2
 repeat infer_instance
 have e2 : El s2 2 y := by
  cases y with
  | tup ds =>
   obtain ⟨q1, q2⟩ := k1.tup
   refine Cq q1 fun e he => ?_
   have := q2 e he
   cases e with
   | tup es => simp [El] at this
   | str z => exact Tw this
   | loc z => exact Tx this
   | _ => simp [El]
  | str z => exact Tw k1
  | loc z => exact Tx k1
  | _ => simp [El]
 refine (om (FF := FF) (n := n) (X.mono F2) hv e2 (by rw [av]; exact k2)).imp ?_
 rintro _ s3 ⟨L', cs, rfl, Y, g, F3⟩
 repeat infer_instance
 exact Lp Y g (F2.trans F3)
theorem ahs (X : Ls s L (V0 c c1).five) (hn : af s N = some ((names26 c1).map D.str)) : Wr (ag tab (C FF (n + 2)) FF B2 (Fe L N cc wy r w) s) (Kc s) := by
 unfold B2 Bm
 simp only [nth, dm]
 have h8 : L2.atI ((names26 c1).map D.str) 8 = some (.str (nameOf c1 8)) := cx (i := 8) (En c1 (by decide))
 repeat infer_instance
 refine ar hn h8 ?_
 repeat infer_instance
 refine (agw (n := n) (cw c1 8) hn).imp ?_
 rintro y s2 ⟨k1, k2, F2⟩
 repeat infer_instance
 refine (om (FF := FF) (n := n + 1) (w := 1) (X.mono F2) (by decide) k1 k2).imp ?_
 rintro _ s3 ⟨L', cs, rfl, Y, g, F3⟩
 repeat infer_instance
 exact Lp Y g (F2.trans F3)
theorem aht (X : Ls s L (V0 c c1).five) (hn : af s N = some ((names26 c1).map D.str)) : Wr (ag tab (C FF (n + 2)) FF B3 (Fe L N cc wy r w) s) (Kc s) := by
 unfold B3 Bm
 simp only [nth, dm]
 have h8 : L2.atI ((names26 c1).map D.str) 17 = some (.str (nameOf c1 17)) := cx (i := 17) (En c1 (by decide))
 repeat infer_instance
 refine ar hn h8 ?_
 repeat infer_instance
 refine (aha (n := n) (cw c1 17) hn).imp ?_
 rintro y s2 ⟨k1, k2, F2⟩
 repeat infer_instance
 refine (om (FF := FF) (n := n + 1) (w := 3) (X.mono F2) (by decide) k1 k2).imp ?_
 rintro _ s3 ⟨L', cs, rfl, Y, g, F3⟩
 repeat infer_instance
 exact Lp Y g (F2.trans F3)
theorem ahu (X : Ls s L (V0 c c1).five) (hn : af s N = some ((names26 c1).map D.str)) : Wr (ag tab (C FF (n + 1)) FF B5 (Fe L N cc wy r w) s) (Kc s) := by
 unfold B5 Bm
 simp only [nth, dm]
 repeat infer_instance
 refine (ahk (FF := FF) (n := n) X hn).imp ?_
 rintro y s2 ⟨k1, F2⟩
 exact Gf ⟨y, rfl, k1, F2⟩
end
section
variable {FF n : Nat} {st s : Sto} {N L : Nat} {c c1 r cc wy : Int} {w : Nat}
theorem at0 {d : D} {r : List D} : L2.atI (d :: r) 0 = some d := by
 unfold L2.atI L2.ixN
 rw [if_pos (Int.le_refl 0), if_pos (by simp <;> omega)]
 rfl
theorem ahv {l : Nat} {xs : List D} {env : DD.Env} {it : E} {Q : D → Sto → Prop} (hi : Wr (Aa tab (C FF n) it env s) fun d s1 => Fr s s1 ∧ ∃ l, d = .loc l ∧ s1[l]? = some (.lst xs)) (hl : xs.length ≤ 1000) (hx : ∀ d ∈ xs, ∃ a r, d = .tup (a :: r))
    (q : ∀ s' l', Fr s s' → s'[l']? = some (.lst (xs.map keyOf)) → Q (.loc l') s') : Wr (Aa tab (C FF n) (.comp 0 true 1 [0] [] it .nil (.ix (.var 0) (.cst (.int 0)))) env s) Q := by
  refine Ng (hi.imp ?_)
  rintro _ s1 ⟨F1, l, rfl, y⟩
  refine ⟨xs, some l, fun d => some (keyOf d), by simp only [Bi, An y]; rfl, szl _ (by omega), fun s' F => Ft (An y) F, ?_, ?_⟩
  · intro d hd s' F
    obtain ⟨a, t, rfl⟩ := hx d hd
    refine Fv rfl ?_
    repeat infer_instance
    exact Dw at0 ⟨rfl, .refl _⟩
  · intro s2 F2 y2
    rw [Di] at y2
    exact q s2 _ (F1.trans F2) y2
theorem ahw (c c1 : Int) : ∀ xs ∈ (V0 c c1).five, ∀ d ∈ xs, ∃ x, keyOf d = .str x ∧ Nm x := by
 have hV := Dq c c1
 intro xs hx d hd
 simp only [Vals.five, List.mem_cons, List.not_mem_nil, or_false] at hx
 rcases hx with rfl | rfl | rfl | rfl | rfl <;> obtain ⟨z, hz, rfl⟩ := List.mem_map.mp hd
 · exact ⟨z, rfl, hV.nums z hz⟩
 · exact ⟨z.1, rfl, (hV.ws z hz).nm⟩
 · exact ⟨z, rfl, hV.things z hz⟩
 · obtain ⟨x, ks, k, e, h1, _⟩ := hV.fs z hz
   injection e with e
   simp only [List.cons.injEq, D.str.injEq] at e
   exact ⟨z.1, rfl, by rw [e.1]; exact h1⟩
 · exact ⟨z, rfl, hV.arrs z hz⟩
theorem item_at {x : Str} (hx : Nm x) (hw : w < 5) : ∃ d, L2.atI [D.str x, D.tup [D.str x, D.int 0, D.int 1], D.str x, D.tup [D.str x, D.tup [W "num"], W "num"], D.str x] (w : Int) = some d ∧ keyOf d = .str x ∧ ∀ s' : Sto, El s' 2 d := by
 have ex : ∀ {s' : Sto} {k : Nat}, El s' k (.str x) := fun {s' k} => De hx k
 rcases w with _ | _ | _ | _ | _ | w
 · exact ⟨_, rfl, rfl, fun _ => ex⟩
 · exact ⟨_, rfl, rfl, fun _ => els ex (Fx _ _) (Fx _ _)⟩
 · exact ⟨_, rfl, rfl, fun _ => ex⟩
 · exact ⟨_, rfl, rfl, fun _ => els ex (Cq (by simp) (by intro e he; rw [List.mem_singleton.mp he]; exact ll (.inl rfl) _)) (ll (.inl rfl) _)⟩
 · exact ⟨_, rfl, rfl, fun _ => ex⟩
 · omega
theorem ahx (X : Ls s L (V0 c c1).five) (hn : af s N = some ((names26 c1).map D.str)) (hw : w < 5) : Wr (ag tab (C FF (n + 1)) FF B4 (Fe L N cc wy r w) s) (Kc s) := by
 unfold B4 Bm
 simp only [nth, dm]
 obtain ⟨hs0, h1, h2, h3⟩ := X.at_
 have hl := An h1
 have get : ∀ i : Nat, i < 5 → ∃ l xs, (V0 c c1).five[i]? = some xs ∧ s[l]? = some (.lst xs) ∧ L2.atI (hs0.map D.loc) (i : Int) = some (.loc l) := fun i hi => by
  obtain ⟨l, xs, e1, e2, e3⟩ := X.get hi
  exact ⟨l, xs, e1, e2, cx (e3 _ h1)⟩
 obtain ⟨l0, x0, p0, q0, a0⟩ := get 0 (by decide)
 obtain ⟨l1, x1, p1, q1, a1⟩ := get 1 (by decide)
 obtain ⟨l2, x2, p2, q2, a2⟩ := get 2 (by decide)
 obtain ⟨l3, x3, p3, q3, a3⟩ := get 3 (by decide)
 obtain ⟨l4, x4, p4, q4, a4⟩ := get 4 (by decide)
 have len : ∀ {i : Nat} {xs : List D}, (V0 c c1).five[i]? = some xs → xs.length ≤ 4 := fun h => fe c c1 _ (List.mem_of_getElem? h)
 have n0 := len p0
 have n1 := len p1
 have n2 := len p2
 have n3 := len p3
 have n4 := len p4
 have keys := ahw c c1
 have h24 : L2.atI ((names26 c1).map D.str) 24 = some (.str (nameOf c1 24)) := cx (i := 24) (En c1 (by decide))
 have first : Wr (Aa tab (C FF (n + 1)) (.op .add (.op .add (.op .add (.op .add (.ix (.var 0) (.cst (.int 0))) (.ix (.var 0) (.cst (.int 2)))) (.ix (.var 0) (.cst (.int 4)))) (.comp 0 true 1 [0] [] (.op .add (.ix (.var 0) (.cst (.int 1))) (.ix (.var 0) (.cst (.int 3)))) .nil (.ix (.var 0) (.cst (.int 0))))) (.lstE (.cons (.ix (.var 1) (.cst (.int 24))) .nil))) (Fe L N cc wy r w) s) fun d s' => ∃ l T, d = .loc l ∧ s'[l]? = some (.lst T) ∧ T ≠ [] ∧ T.length ≤ 100 ∧ (∀ y ∈ T, ∃ x, y = .str x ∧ Nm x) ∧ Fr s s' := by
  repeat infer_instance
  refine ar hl a0 ?_
  repeat infer_instance
  refine ar hl a2 ?_
  refine Bl q0 q2 (szl _ (by omega)) ?_
  generalize g1 : s ++ [.lst (x0 ++ x2)] = s1
  have F1 := Ao g1
  have y1 := at_of g1
  repeat infer_instance
  refine ar (F1.lst hl) a4 ?_
  refine Bl y1 (F1.at q4) (szl _ (by simp; omega)) ?_
  generalize g2 : s1 ++ [.lst (x0 ++ x2 ++ x4)] = s2
  have F2 := Ao g2
  have y2 := at_of g2
  have F02 := F1.trans F2
  refine ahv (l := 0) (xs := x1 ++ x3) ?_ (by simp; omega) ?_ ?_
  · repeat infer_instance
    refine ar (F02.lst hl) a1 ?_
    repeat infer_instance
    refine ar (F02.lst hl) a3 ?_
    exact Bl (F02.at q1) (F02.at q3) (szl _ (by omega)) ⟨.app _, _, rfl, gg0.trans rfl⟩
  · intro d hd
    rcases List.mem_append.mp hd with hd | hd
    · cases p1
      obtain ⟨z, _, rfl⟩ := List.mem_map.mp hd
      exact ⟨_, _, rfl⟩
    · cases p3
      obtain ⟨z, _, rfl⟩ := List.mem_map.mp hd
      exact ⟨_, _, rfl⟩
  intro s3 l' F3 y3
  refine Bl (F3.at y2) y3 (szl _ (by simp; omega)) ?_
  generalize g4 : s3 ++ [.lst (x0 ++ x2 ++ x4 ++ (x1 ++ x3).map keyOf)] = s4
  have F4 := Ao g4
  have y4 := at_of g4
  have F04 := (F02.trans F3).trans F4
  repeat infer_instance
  refine ar (F04.lst hn) h24 ?_
  repeat infer_instance
  generalize g5 : s4 ++ [.lst [.str (nameOf c1 24)]] = s5
  have F5 := Ao g5
  have y5 := at_of g5
  refine Bl (F5.at y4) y5 (szl _ (by simp; omega)) ?_
  refine ⟨s5.length, _, rfl, gg0.trans rfl, by simp, by simp; omega, ?_, (F04.trans F5).trans (.app _)⟩
  have str : ∀ {i : Nat} {xs : List D}, (V0 c c1).five[i]? = some xs → i ≠ 1 → i ≠ 3 → ∀ y ∈ xs, ∃ x, y = .str x ∧ Nm x := by
   intro i xs h i1 i3 y hy
   obtain ⟨x, e, hx⟩ := keys xs (List.mem_of_getElem? h) y hy
   rcases i with _ | _ | _ | _ | _ | i
   · cases h; obtain ⟨z, hz, rfl⟩ := List.mem_map.mp hy; exact ⟨x, e, hx⟩
   · exact absurd rfl i1
   · cases h; obtain ⟨z, hz, rfl⟩ := List.mem_map.mp hy; exact ⟨x, e, hx⟩
   · exact absurd rfl i3
   · cases h; obtain ⟨z, hz, rfl⟩ := List.mem_map.mp hy; exact ⟨x, e, hx⟩
   · cases h
  intro y hy
  simp only [List.mem_append, List.mem_singleton, List.mem_map] at hy
  rcases hy with (((hy | hy) | hy) | ⟨z, hz, rfl⟩) | rfl
  · exact str p0 (by decide) (by decide) y hy
  · exact str p2 (by decide) (by decide) y hy
  · exact str p4 (by decide) (by decide) y hy
  · rcases hz with hz | hz
    · exact keys x1 (List.mem_of_getElem? p1) z hz
    · exact keys x3 (List.mem_of_getElem? p3) z hz
  · exact ⟨_, rfl, cw _ _⟩
 refine Be (dj (first.imp ?_))
 rintro _ s1 ⟨l, T, rfl, y1, hne, hT, hstr, F1⟩
 refine ⟨of_decide_eq_true rfl, bh (Be (dj ?_))⟩
 have lT : 0 < T.length := List.length_pos_iff.mpr hne
 repeat infer_instance
 refine Jz (An y1) ?_
 refine gg (by omega) ?_
 obtain ⟨y, hy, ey⟩ := Jb (xs := T) (c := r.fdiv 5) (m := (T.length : Int)) rfl (by omega)
 refine ar (An y1) ey ?_
 obtain ⟨x, rfl, hx⟩ := hstr y hy
 refine ⟨of_decide_eq_true rfl, bh (Be (dj ?_))⟩
 obtain ⟨d, ed, kd, eld⟩ := item_at (w := w) hx hw
 repeat infer_instance
 refine ar (An (gg0.trans rfl)) ed ?_
 generalize g2 : s1 ++ [.lst _] = s2
 have F2 := Ao g2
 have F02 := F1.trans F2
 repeat infer_instance
 obtain ⟨xw, pw, nw⟩ := ua c c1 hw
 refine (Hj (FF := FF) (n := n) (X.mono F02) hw pw (by omega) (eld _)).imp ?_
 rintro _ s3 ⟨L3, k3, rfl, hk3, X3, F3⟩
 refine ⟨of_decide_eq_true rfl, bh (Be (dj ?_))⟩
 obtain ⟨v, ev, hv, av⟩ := Tz (m := r.fdiv 7)
 repeat infer_instance
 refine ar (An (gg0.trans rfl)) ev ?_
 generalize g4 : s3 ++ [.lst [.int 0, .int 2, .int 4]] = s4
 have F4 := Ao g4
 repeat infer_instance
 have h5 : ((V0 c c1).five.set w (By xw k3 d)).length = 5 := by rw [List.length_set]; rfl
 obtain ⟨xv, pv, nv⟩ : ∃ xv, ((V0 c c1).five.set w (By xw k3 d))[v]? = some xv ∧ xv.length ≤ 17 := by
  have hl : v < ((V0 c c1).five.set w (By xw k3 d)).length := by omega
  refine ⟨_, List.getElem?_eq_getElem hl, ?_⟩
  rcases List.mem_or_eq_of_mem_set (List.getElem_mem hl) with hm | hm
  · exact Nat.le_trans (fe c c1 _ hm) (by decide)
  · rw [hm]; unfold By; simp; omega
 refine (Hj (FF := FF) (n := n) (X3.mono F4) hv pv nv (De hx 2)).imp ?_
 rintro _ s5 ⟨L5, k5, rfl, hk5, X5, F5⟩
 refine ⟨of_decide_eq_true rfl, bh (Be (gw (Nd (Ea (w_var rfl (Ea (Cu (dw ⟨szl _ (of_decide_eq_true rfl), ?_⟩))))))))⟩
 refine Lp X5.lc (ahe (x := x) ?_) (((F02.trans F3).trans F4).trans F5)
 rw [Jd x pv, Jd x pw, kd]
 simp [keyOf]
end
section
variable {FF n : Nat} {st s : Sto} {N L : Nat} {c c1 r cc wy : Int} {w : Nat}
theorem ahy (X : Ls s L (V0 c c1).five) (hn : af s N = some ((names26 c1).map D.str)) : Wr (ag tab (C FF (n + 1)) FF B6 (Fe L N cc wy r w) s) (Kc s) := by
 unfold B6 Bm
 simp only [lp]
 have h24 : L2.atI ((names26 c1).map D.str) 24 = some (.str (nameOf c1 24)) := cx (i := 24) (En c1 (by decide))
 have b3 := Ak (c := r) (m := 3) (by decide)
 have oks : okN 40 (.str (Cs (Str.ofString "a") 8)) = true := Lh (k := 0) (st := []) (De Ol 0)
 have okn : ((names26 c1).map D.str).all (okN 40) = true := by
  rw [List.all_eq_true]
  intro d hd
  obtain ⟨x, hx, rfl⟩ := List.mem_map.mp hd
  exact Lh (k := 0) (st := []) (De (Sx c1 x hx) 0)
 repeat infer_instance
 refine og ⟨by decide, by decide, by rw [Hk]; decide, by rw [Hk]; exact szl _ (by decide)⟩ ?_
 repeat infer_instance
 refine ar hn h24 ?_
 repeat infer_instance
 generalize r.fmod (10 ^ Int.toNat 20) = lo
 generalize g1 : s ++ [.lst _] = s1
 have F1 := Ao g1
 have y1 := at_of g1
 refine ar (F1.lst hn) h24 ?_
 repeat infer_instance
 refine Tq ⟨by decide, by decide, szl _ (by decide)⟩ ?_
 repeat infer_instance
 generalize g2 : s1 ++ [.lst _] = s2
 have F2 := Ao g2
 have y2 := at_of g2
 refine Bl (F2.at y1) y2 (szl _ (of_decide_eq_true rfl)) ?_
 generalize g3 : s2 ++ [.lst _] = s3
 have F3 := Ao g3
 have y3 : af s3 s2.length = some ([D.tup [D.str (Cs (Str.ofString "a") (Int.toNat 8)), D.int 0], D.tup [D.tup [D.str (nameOf c1 24), D.int (0 - lo), D.int (60 - lo)], D.int 1]] ++ [D.tup [D.tup [D.str (nameOf c1 24), D.tup [W "num", W "num", W "num"], W "thing"], D.int 3]]) := by rw [← g3]; exact An (gg0.trans rfl)
 have F03 := (F1.trans F2).trans F3
 have X3 := X.mono F03
 have hn3 := F03.lst hn
 repeat infer_instance
 have : r.fmod 3 = 0 ∨ r.fmod 3 = 1 ∨ r.fmod 3 = 2 := by omega
 rcases this with e | e | e <;> rw [e]
 · refine ar y3 (d := D.tup [D.str (Cs (Str.ofString "a") (Int.toNat 8)), D.int 0]) rfl ⟨_, rfl, ?_⟩
   repeat infer_instance
   rw [e]
   refine ⟨_, rfl, ck ?_⟩
   repeat infer_instance
   refine og ⟨by decide, by decide, by rw [Hk]; decide, by rw [Hk]; exact szl _ (by decide)⟩ ?_
   repeat infer_instance
   refine acb hn3 oks okn ⟨_, rfl, fun g => ?_, fun g => ?_⟩
   · repeat infer_instance
     exact lq X3.lc ⟨V0 c c1, Dq c c1, rfl⟩ F03
   · have g := of_decide_eq_false g
     repeat infer_instance
     refine (Hj (FF := FF) (n := n) (w := 0) X3 (by decide) rfl (by have := fe c c1 _ (List.mem_of_getElem? (i := 0) (l := (V0 c c1).five) rfl); omega) (De Ol 2)).imp ?_
     rintro _ s4 ⟨L4, k4, rfl, hk4, X4, F4⟩
     repeat infer_instance
     refine lq X4.lc (good0 Ol (fun hm => g ?_) k4) (F03.trans F4)
     exact List.mem_map.mpr ⟨_, ahn c c1 _ hm, rfl⟩
 · refine ar y3 (d := D.tup [D.tup [D.str (nameOf c1 24), D.int (0 - lo), D.int (60 - lo)], D.int 1]) rfl ⟨_, rfl, ?_⟩
   repeat infer_instance
   rw [e]
   refine ⟨_, rfl, Dv ?_⟩
   repeat infer_instance
   refine (Hj (FF := FF) (n := n) (w := 1) X3 (by decide) rfl (by have := fe c c1 _ (List.mem_of_getElem? (i := 1) (l := (V0 c c1).five) rfl); omega) (els (De (cw c1 24) 1) (Fx _ _) (Fx _ _))).imp ?_
   rintro _ s4 ⟨L4, k4, rfl, hk4, X4, F4⟩
   repeat infer_instance
   exact lq X4.lc (ahm (lo := 0 - lo) (hi := 60 - lo) (by omega) (by omega) k4) (F03.trans F4)
 · refine ar y3 (d := D.tup [D.tup [D.str (nameOf c1 24), D.tup [W "num", W "num", W "num"], W "thing"], D.int 3]) rfl ⟨_, rfl, ?_⟩
   repeat infer_instance
   rw [e]
   refine ⟨_, rfl, Dv ?_⟩
   have fr : gi (Bp (nameOf c1 24, [W "num", W "num", W "num"], W "thing")) := ⟨_, _, _, rfl, cw _ _, by intro d hd; simp at hd; rw [hd]; exact .inl rfl, by simp, by simp, .inr rfl⟩
   repeat infer_instance
   refine (Hj (FF := FF) (n := n) (w := 3) X3 (by decide) rfl (by have := fe c c1 _ (List.mem_of_getElem? (i := 3) (l := (V0 c c1).five) rfl); omega) (Tn fr 0)).imp ?_
   rintro _ s4 ⟨L4, k4, rfl, hk4, X4, F4⟩
   repeat infer_instance
   exact lq X4.lc (good3 fr k4) (F03.trans F4)
end
section
variable {FF n : Nat} {st s : Sto} {N L : Nat} {c c1 r cc wy : Int} {w : Nat}
theorem Hm {f : Fl} {s' : Sto} {r : Ss} {F : Nat} {call : Or} (h : Kc s f s') : Kt tab call F r (Kf fun y s' => je s' y ∧ Fr s s') f s' := by
 obtain ⟨y, rfl, h1, h2⟩ := h
 exact Gf (gx ⟨h1, h2⟩)
theorem ahz (X : Ls s L (V0 c c1).five) (hn : af s N = some ((names26 c1).map D.str)) : Wr (C FF (n + 3) 31 [.loc L, .loc N, .int cc] s) fun y s' => je s' y ∧ Fr s s' := by
 refine Ce [some (.loc L), some (.loc N), some (.int cc), none, none, none, none, none, none, none, none, none, none] (b := Bm) rfl rfl (by decide) rfl ?_
 have g6 := Ak (c := cc) (m := 6) (by decide)
 have g5 := Ak (c := cc.fdiv 6) (m := 5) (by decide)
 have ew : (((cc.fdiv 6).fmod 5).toNat : Int) = (cc.fdiv 6).fmod 5 := Int.toNat_of_nonneg g5.1
 have hw : ((cc.fdiv 6).fmod 5).toNat < 5 := by omega
 have c0 := ahq (FF := FF) (n := n + 2) (N := N) (cc := cc) (wy := cc.fmod 6) (r := cc.fdiv 6) X hw
 have c1' := ahr (FF := FF) (n := n + 1) (cc := cc) (wy := cc.fmod 6) (r := cc.fdiv 6) (w := ((cc.fdiv 6).fmod 5).toNat) X hn
 have c2 := ahs (FF := FF) (n := n) (cc := cc) (wy := cc.fmod 6) (r := cc.fdiv 6) (w := ((cc.fdiv 6).fmod 5).toNat) X hn
 have c3 := aht (FF := FF) (n := n) (cc := cc) (wy := cc.fmod 6) (r := cc.fdiv 6) (w := ((cc.fdiv 6).fmod 5).toNat) X hn
 have c4 := ahx (FF := FF) (n := n + 1) (cc := cc) (wy := cc.fmod 6) (r := cc.fdiv 6) X hn hw
 have c5 := ahu (FF := FF) (n := n + 1) (cc := cc) (wy := cc.fmod 6) (r := cc.fdiv 6) (w := ((cc.fdiv 6).fmod 5).toNat) X hn
 have c6 := ahy (FF := FF) (n := n + 1) (cc := cc) (wy := cc.fmod 6) (r := cc.fdiv 6) (w := ((cc.fdiv 6).fmod 5).toNat) X hn
 unfold Fe at c0 c1' c2 c3 c4 c5 c6
 rw [ew] at c0 c1' c2 c3 c4 c5 c6
 unfold B0 Bm at c0
 unfold B1 Bm at c1'
 unfold B2 Bm at c2
 unfold B3 Bm at c3
 unfold B4 Bm at c4
 unfold B5 Bm at c5
 unfold B6 Bm at c6
 simp only [nth, dm, lp] at c0 c1' c2 c3 c4 c5 c6
 unfold Bm
 refine Be (dj (Io (w_var rfl (Cu (gg (by decide) ⟨of_decide_eq_true rfl, bh ?_⟩)))))
 refine Be (dj (Io (w_var rfl (Cu (Ro (by decide) ⟨of_decide_eq_true rfl, bh ?_⟩)))))
 refine Be (dj (Io (w_var rfl (Cu (gg (by decide) ⟨of_decide_eq_true rfl, bh ?_⟩)))))
 refine Be (Fu (fu (w_var rfl (Cu (Gg ⟨_, rfl, fun _ => c0.imp fun f s' h => Hm h, fun _ => Ez (bh ?_)⟩)))))
 refine Be (Fu (fu (w_var rfl (Cu (Gg ⟨_, rfl, fun _ => c1'.imp fun f s' h => Hm h, fun _ => Ez (bh ?_)⟩)))))
 refine Be (Fu (fu (w_var rfl (Cu (Gg ⟨_, rfl, fun _ => c2.imp fun f s' h => Hm h, fun _ => Ez (bh ?_)⟩)))))
 refine Be (Fu (fu (w_var rfl (Cu (Gg ⟨_, rfl, fun _ => c3.imp fun f s' h => Hm h, fun _ => Ez (bh ?_)⟩)))))
 refine Be (Fu (fu (w_var rfl (Cu (Gg ⟨_, rfl, fun _ => c4.imp fun f s' h => Hm h, fun _ => Ez (bh ?_)⟩)))))
 refine Be (Fu (fu (Io (w_var rfl (Cu (gg (by decide) (Cu (Gg ⟨_, rfl, fun _ => c5.imp fun f s' h => Hm h, fun _ => Ez (bh ?_)⟩))))))))
 refine c6.imp fun f s' h => ?_
 obtain ⟨y, rfl, h1, h2⟩ := h
 exact gx ⟨h1, h2⟩
end
section
variable {FF n : Nat} {st s : Sto} {N L q : Nat} {ns : List Int} {c c1 : Int}
theorem Lq : okN 40 (W "made") = true ∧ okN 40 (W "bad") = true := by decide +kernel
theorem aia {l k m : Nat} {xs : List D} (h : af st l = some xs) (hx : xs.all (okN k) = true) (hm : k ≤ m) : Ah st (m + 1) (.loc l) = some (.list (xs.map (pyN k))) := by
 simp only [Ah, h, Option.bind_some, Nb hm xs hx, Option.map_some]
mutual
theorem Ua : ∀ p : PyData, p.canLay0 = true → PyData.eqv p p = true
 | .none, _ => by simp only [PyData.eqv]
 | .bool b, _ => by simp [PyData.eqv]
 | .int b, _ => by simp [PyData.eqv]
 | .str b, _ => by simp [PyData.eqv]
 | .list xs, h => by
  simp only [PyData.canLay0] at h
  simp only [PyData.eqv]; exact Om xs h
 | .tuple xs, h => by
  simp only [PyData.canLay0] at h
  simp only [PyData.eqv]; exact Om xs h
 | .dict _, h => by simp [PyData.canLay0] at h
theorem Om : ∀ ps : List PyData, PyData.canLayAll0 ps = true → PyData.eqvAll ps ps = true
 | [], _ => by simp only [PyData.eqvAll]
 | p :: r, h => by
  simp only [PyData.canLayAll0, Bool.and_eq_true] at h
  simp only [PyData.eqvAll, Ua p h.1, Om r h.2, Bool.and_self]
end
theorem aib {Q : D → Sto → Prop} {a b : D} {p : PyData} (ha : Ah st 40 a = some p) (hb : Ah st 40 b = some p) (qq : Q (.bl true) st) : Wr (cmD .eq a b st) Q := ⟨_, _, by simp only [cmD, DD.eqV, ha, hb, Ua p (Ib 40 a p ha).1], qq⟩
theorem El.ok : ∀ {k m : Nat} {d : D}, (∀ s : Sto, El s k d) → okN (m + k) d = true ∨ True := fun _ => .inr trivial
theorem Je {x : Str} (h : Nm x) (k : Nat) : okN k (.str x) = true := Lh (k := 0) (st := []) (De h 0)
theorem ub {d : D} (h : Kd d) (k : Nat) : okN k d = true := by
 rcases h with rfl | rfl
 · have := Sq; cases k <;> simpa [okN] using this
 · have := sr; cases k <;> simpa [okN] using this
theorem aic {V : Vals} (h : VOk V) : ∀ xs ∈ V.five, xs.all (okN 38) = true := by
 have i : ∀ i : Int, okN 37 (.int i) = true := fun i => by simp [okN]
 intro xs hx
 rw [List.all_eq_true]
 intro d hd
 simp only [Vals.five, List.mem_cons, List.not_mem_nil, or_false] at hx
 rcases hx with rfl | rfl | rfl | rfl | rfl <;> obtain ⟨z, hz, rfl⟩ := List.mem_map.mp hd
 · exact Je (h.nums z hz) _
 · rw [okN, List.all_cons, List.all_cons, List.all_cons, Je (h.ws z hz).nm, i, i]; rfl
 · exact Je (h.things z hz) _
 · obtain ⟨x, ks, k, e, h1, h2, h3, h4, h5⟩ := h.fs z hz
   rw [e]
   have a : ks.all (okN 36) = true := by rw [List.all_eq_true]; exact fun d hd => ub (h2 d hd) _
   rw [okN, List.all_cons, List.all_cons, List.all_cons, Je h1, ub h5, okN, a]; rfl
 · exact Je (h.arrs z hz) _
theorem Ub {V : Vals} (hV : VOk V) (X : Ls s L V.five) : Ah s 40 (.loc L) = some (.list (V.five.map fun xs => .list (xs.map (pyN 38)))) := by
 obtain ⟨hs, h1, h2, h3⟩ := X.at_
 rw [Ah, An h1, Option.bind_some]
 have key : ∀ (hs : List Nat) (xss : List (List D)), hs.length = xss.length → (∀ (k h : Nat), hs[k]? = some h → ∃ xs, xss[k]? = some xs ∧ s[h]? = some (.lst xs)) → (∀ xs ∈ xss, xs.all (okN 38) = true) → Bh ((hs.map D.loc).map (Ah s 39)) = some (xss.map fun xs => PyData.list (xs.map (pyN 38))) := by
  intro hs
  induction hs with
  | nil => intro xss hl _ _; cases xss with | nil => rfl | cons a r => cases hl
  | cons h r ih =>
   intro xss hl hh ho
   cases xss with
   | nil => cases hl
   | cons xs t =>
    obtain ⟨xs', e1, e2⟩ := hh 0 h rfl
    cases e1
    have := ih t (by simpa using hl) (fun k h hk => hh (k + 1) h (by simpa using hk)) (fun ys hy => ho ys (List.mem_cons_of_mem _ hy))
    simp only [List.map_cons, aia (An e2) (ho xs List.mem_cons_self) (Nat.le_refl 38), Bh, this, Option.map_some]
 rw [key hs V.five h2 h3 (aic hV)]
 rfl
theorem aid (hq : af s q = some (ns.map D.int)) : Wr (C FF (n + 7) 32 [.loc q] s) fun d s' => d = .bl true := by
 refine Ce [some (.loc q), none, none, none, none, none] (b := kq) rfl rfl (by decide) rfl ?_
 unfold kq
 repeat infer_instance
 refine (lg hq (by decide)).imp ?_
 rintro y0 z0 ⟨hy0, hz0⟩; rw [hy0, hz0]; clear hy0 hz0 y0 z0
 generalize Lf ns 0 = c1
 repeat infer_instance
 refine (aft c1).imp ?_
 rintro _ s1 ⟨rfl, F1, y1⟩
 have n1 := An y1
 repeat infer_instance
 refine (lg (F1.lst hq) (by decide)).imp ?_
 rintro y0 z0 ⟨hy0, hz0⟩; rw [hy0, hz0]; clear hy0 hz0 y0 z0
 generalize hc : Lf ns 1 = c
 repeat infer_instance
 refine (tq (FF := FF) (n := n + 5) n1).imp ?_
 rintro _ s2 ⟨L, rfl, X2, F2⟩
 have F02 := F1.trans F2
 have n2 := F2.lst n1
 repeat infer_instance
 refine ⟨Br 0 3, rfl, ?_⟩
 refine Jx (fun i env s' => Fr s2 s' ∧ ∃ a b d, env = [some (.loc q), some (.loc s.length), some (.loc L), a, b, d]) (fun _ _ _ _ => rfl) ⟨.refl _, none, none, none, rfl⟩ ?_ ?_
 · rintro j d hd env s3 ⟨F3, a, b, e, rfl⟩
   obtain ⟨rfl, hj⟩ := iz hd
   refine jx rfl ?_
   have F03 := F02.trans F3
   repeat infer_instance
   refine (lg (F03.lst hq) (by omega)).imp ?_
   rintro y0 z0 ⟨hy0, hz0⟩; rw [hy0, hz0]; clear hy0 hz0 y0 z0
   repeat infer_instance
   refine (ahz (FF := FF) (n := n + 3) (X2.mono F3) (F3.lst n2)).imp ?_
   rintro _ s4 ⟨⟨L', cs, due, rfl, Y, g⟩, F4⟩
   refine ⟨_, rfl, ?_⟩
   have dok : okN 40 (W due) = true := by rcases g with ⟨rfl, _⟩ | ⟨rfl, _⟩; exact Lq.1; exact Lq.2
   repeat infer_instance
   refine (Ts (FF := FF) (n := n) Y).imp ?_
   rintro z s5 ⟨p1, p2, F5⟩
   have hz : z = W due := by
    rcases g with ⟨rfl, g⟩ | ⟨rfl, g⟩
    · exact p1 g
    · exact p2 g
   rw [hz]
   repeat infer_instance
   refine rq dok dok ?_
   refine ⟨_, rfl, fun h => by simp at h, fun _ => ?_⟩
   have F25 := (F3.trans F4).trans F5
   have Y2 := (X2.mono F25).lc
   repeat infer_instance
   refine (Ts (FF := FF) (n := n) Y2).imp ?_
   rintro z s6 ⟨p1, p2, F6⟩
   rw [p1 ⟨V0 c c1, Dq c c1, rfl⟩]
   repeat infer_instance
   refine rq Lq.1 Lq.1 ?_
   refine ⟨_, rfl, fun h => by simp at h, fun _ => ?_⟩
   repeat infer_instance
   exact ⟨_, rfl, F25.trans F6, _, _, _, rfl⟩
 · rintro env s3 ⟨F3, a, b, e, rfl⟩
   repeat infer_instance
   refine (lg ((F02.trans F3).lst hq) (by decide)).imp ?_
   rintro y0 z0 ⟨hy0, hz0⟩; rw [hy0, hz0]; clear hy0 hz0 y0 z0
   rw [hc]
   repeat infer_instance
   refine (tq (FF := FF) (n := n + 5) (F3.lst n2)).imp ?_
   rintro _ s4 ⟨L4, rfl, X4, F4⟩
   refine aib (Ub (Dq c c1) (X2.mono (F3.trans F4))) (Ub (Dq c c1) X4) ?_
   repeat infer_instance
   rfl
end
abbrev calls : Nat := 7
theorem aie : ∀ ns : List Int, ns.length ≤ 63 → ∃ FF st, Nw FF calls [.loc 0] [.frz (ns.map D.int)] = .ok (.bl true) st := fun ns _ => by
 have h : af [Cell.frz (ns.map D.int)] 0 = some (ns.map D.int) := rfl
 obtain ⟨d, s, e, rfl⟩ := aid (FF := 200) (n := 0) h
 exact ⟨200, s, e⟩
end My
open PySem PySem.W PyProof.Rows
set_option maxRecDepth 100000 in
set_option maxHeartbeats 0 in
theorem PySem.Challenge.cw_partproof_k03_names_refused_holds : PySem.Challenge.rw_partproof_k03_names_refused.Holds := by
 refine holds_law (by kernel_rfl) fun said => holds_open (XP := XL HD.q []) (YP := InK HD.Kf) HD.hl HD.H.of HD.H.keeps (fun s e => xl_of s (Bool.and_eq_true_iff.mp e).1) XL.keeps (by rfl) (by rfl) (by rfl) (fun s e => recFacts_of (Bool.and_eq_true_iff.mp e).2) (by rfl) said (by decide +kernel) ⟨rfl, rfl, rfl, rfl, rfl, by decide +kernel⟩ ?hw ?hc
 case hw => w_witness2
 k_fill
 refine My.walk (n := My.calls) (l := PySem.Challenge.rw_partproof_k03_names_refused) rfl rfl rfl ⟨rfl, by decide, by decide⟩ (fun _ _ Y => Y) ?lawTop ?lawEnd
 case lawTop =>
  intro w mg h KX G
  refine' My.afa w KX G ?_ ?_ ?_ ?_ ?_ ?_ ?_ ?_ ?_ ?_ ?_ ?_ ?_ ?_ ?_ ?_ ?_ ?_ ?_ ?_ ?_ ?_ ?_ ?_ ?_ ?_ ?_ ?_ ?_ ?_ ?_ ?_ ?_ ?_ ?_ ?_ ?_ ?_ ?_ ?_ ?_ ?_ ?_ ?_ ?_ ?_ ?_ ?_ ?_ ?_ ?_ ?_ ?_ ?_ ?_ ?_ ?_ ?_ ?_ ?_ ?_ ?_ ?_ ?_ ?_ ?_ ?_ ?_ ?_ ?_ ?_ ?_ ?_ ?_ ?_ ?_ ?_ ?_ ?_ ?_ ?_ ?_ ?_ ?_ ?_ ?_ ?_ ?_ ?_ ?_ ?_ ?_ ?_ ?_ ?_ ?_ ?_ ?_ ?_ ?_ ?_ ?_ ?_ ?_ ?_ ?_ ?_ ?_ ?_ ?_ ?_ ?_ ?_ ?_ ?_ ?_ ?_ ?_ ?_ ?_ ?_ ?_ ?_ ?_ ?_ ?_ ?_ ?_ ?_ ?_ ?_ ?_ ?_ ?_ ?_ ?_ ?_ ?_ ?_ ?_ ?_ ?_ ?_ ?_ ?_ ?_ ?_ ?_ ?_ ?_ ?_ ?_ ?_ ?_
  any_goals k_is
  any_goals first | k_exc | kit_is | kts_exm | rfl
 case lawEnd => exact My.aie
