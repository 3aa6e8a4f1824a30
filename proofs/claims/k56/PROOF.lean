import PyProof.Rows.All
import Wide.All
import OpenK.AllK
import Wide.FinOn
import Lean
import PyProof.EqAt
import PyProof.EqKinds
import PyProof.TupleCall
import PyProof.NsDelKeeps
import PyProof.DictWalks
import KE.KDictLaws
import KE.KDictList
import PyProof.Rows.SetFrom
import PyProof.WalksEnum
import PyProof.LayNew
import PyProof.Rows.EnumRows
import PySem.Challenge.RW_partproof_k56_false_by_a_path
set_option Elab.async false
set_option linter.all false
set_option maxRecDepth 100000
set_option maxHeartbeats 4000000
noncomputable section
namespace L2
open PySem PySem.Spec PyProof.Rows
abbrev Key := Sum Int Str
noncomputable def keyIs : Key → Value → Bool
 | .inl k, v => Value.isInt k v
 | .inr x, v => Value.isStrOf x v
noncomputable def keyH (w : World) : Key → Int
 | .inl k => hashInt k
 | .inr x => hashStr w x
theorem keyIs_shape : ∀ {k : Key} {v : Value}, keyIs k v = true → (∃ i t, k = Sum.inl i ∧ v = Value.int i t) ∨ (∃ x t, k = Sum.inr x ∧ v = Value.str x t)
 | .inl i, v, h => by
  obtain ⟨t, e⟩ := Value.isInt_shape (k := i) (v := v) h
  exact .inl ⟨i, t, rfl, e⟩
 | .inr x, v, h => by
  obtain ⟨t, e⟩ := Value.isStrOf_shape (x := x) (v := v) h
  exact .inr ⟨x, t, rfl, e⟩
theorem keyIs_int (i : Int) (t : Tok) : keyIs (.inl i) (.int i t) = true := by simp [keyIs, Value.isInt]
theorem keyIs_str (x : Str) (t : Tok) : keyIs (.inr x) (.str x t) = true := by simp [keyIs, Value.isStrOf]
theorem key_ll (a b : Int) : decide ((Sum.inl a : Key) = Sum.inl b) = (a == b) := by
 by_cases e : a = b
 · subst e; simp
 · have h : ¬ (Sum.inl a : Key) = Sum.inl b := fun q => e (Sum.inl.inj q)
   rw [decide_eq_false h]
   exact (beq_eq_false_iff_ne.mpr e).symm
theorem key_rr (a b : Str) : decide ((Sum.inr a : Key) = Sum.inr b) = decide (a = b) := by
 by_cases e : a = b
 · subst e; simp
 · have h : ¬ (Sum.inr a : Key) = Sum.inr b := fun q => e (Sum.inr.inj q)
   rw [decide_eq_false h, decide_eq_false e]
theorem key_lr (a : Int) (b : Str) : decide ((Sum.inl a : Key) = Sum.inr b) = false := decide_eq_false (fun q => nomatch q)
theorem key_rl (a : Str) (b : Int) : decide ((Sum.inr a : Key) = Sum.inl b) = false := decide_eq_false (fun q => nomatch q)
noncomputable def mixKind (prog : Program) (w : World) : PySem.KeyKind prog w Key where
 is := keyIs
 hash := keyH w
 inj := fun v a b ha hb => by
  rcases keyIs_shape ha with ⟨i, t, rfl, rfl⟩ | ⟨x, t, rfl, rfl⟩
  · rcases keyIs_shape hb with ⟨j, u, rfl, e⟩ | ⟨y, u, rfl, e⟩
    · injection e with e1 _; rw [e1]
    · exact nomatch e
  · rcases keyIs_shape hb with ⟨j, u, rfl, e⟩ | ⟨y, u, rfl, e⟩
    · exact nomatch e
    · injection e with e1 _; rw [e1]
 byValue := fun k v h => by
  rcases keyIs_shape h with ⟨i, t, rfl, rfl⟩ | ⟨x, t, rfl, rfl⟩ <;> rfl
 pyHash := fun hv h => by
  rcases keyIs_shape hv with ⟨i, t, rfl, rfl⟩ | ⟨x, t, rfl, rfl⟩
  · exact wpAny_pyHash_int h
  · exact wpAny_pyHash_str h
 eqBool := fun hu hv h => by
  rcases keyIs_shape hu with ⟨i, t, rfl, rfl⟩ | ⟨x, t, rfl, rfl⟩
  · rcases keyIs_shape hv with ⟨j, u, rfl, rfl⟩ | ⟨y, u, rfl, rfl⟩
    · rw [key_ll] at h; exact wpAny_eqBool_int h
    · rw [key_lr] at h; exact SeqAt.EqAt.int_str i t y u _ _ _ _ h
  · rcases keyIs_shape hv with ⟨j, u, rfl, rfl⟩ | ⟨y, u, rfl, rfl⟩
    · rw [key_rl] at h; exact SeqAt.EqAt.str_int x t j u _ _ _ _ h
    · rw [key_rr] at h; exact wpAny_eqBool_str h
 «strs» := fun k x t v h => by
  rcases keyIs_shape h with ⟨i, u, rfl, e⟩ | ⟨y, u, rfl, e⟩
  · exact nomatch e
  · injection e with e1 _
    subst e1
    cases v <;> rfl
theorem mixKind_int (prog : Program) (w : World) (i : Int) (t : Tok) : (mixKind prog w).is (.inl i) (.int i t) = true := keyIs_int i t
theorem mixKind_str (prog : Program) (w : World) (x : Str) (t : Tok) : (mixKind prog w).is (.inr x) (.str x t) = true := keyIs_str x t
end L2
namespace L2
open PySem PySem.Spec PyProof.Rows
inductive V where
 | non | bl (b : Bool) | int (i : Int) | str (x : Str) | byt (b : Array UInt8) | flt (b : UInt64) | ref (a : Addr) | ty (n : String)
 deriving DecidableEq
def RelV : V → Value → Prop
 | .non, u => u = Value.none
 | .bl b, u => u = Value.bool b
 | .int i, u => ∃ t, u = Value.int i t
 | .str x, u => ∃ t, u = Value.str x t
 | .byt b, u => ∃ t, u = Value.bytes b t
 | .flt b, u => ∃ t, u = Value.float b t
 | .ref a, u => u = Value.ref a
 | .ty n, u => u = Value.type n
abbrev Vals : List V → List Value → Prop := Paired RelV
theorem Vals.length {xs : List V} {us : List Value} (r : Vals xs us) : xs.length = us.length := Paired.length r
theorem Vals.get : ∀ {xs : List V} {us : List Value} {i : Nat} {x : V}, Vals xs us → xs[i]? = some x → ∃ u, us[i]? = some u ∧ RelV x u
 | _, _, _, _, .nil, e => by simp at e
 | _, _, 0, _, .cons r _, e => by simp at e; subst e; exact ⟨_, rfl, r⟩
 | _, _, i + 1, x, .cons _ t, e => by
  obtain ⟨u, h1, h2⟩ := Vals.get (i := i) (x := x) t (by simpa using e)
  exact ⟨u, by simpa using h1, h2⟩
theorem Vals.set {x : V} {u : Value} (r : RelV x u) : ∀ {xs : List V} {us : List Value} (i : Nat), Vals xs us → Vals (xs.set i x) (us.set i u)
 | _, _, _, .nil => .nil
 | _, _, 0, .cons _ t => .cons r t
 | _, _, i + 1, .cons q t => .cons q (Vals.set r i t)
theorem Vals.append : ∀ {xs ys : List V} {us ws : List Value}, Vals xs us → Vals ys ws → Vals (xs ++ ys) (us ++ ws)
 | _, _, _, _, .nil, s => s
 | _, _, _, _, .cons r t, s => .cons r (Vals.append t s)
theorem Vals.take : ∀ {xs : List V} {us : List Value} (n : Nat), Vals xs us → Vals (xs.take n) (us.take n)
 | _, _, 0, _ => .nil
 | _, _, _ + 1, .nil => .nil
 | _, _, n + 1, .cons r t => .cons r (Vals.take n t)
theorem Vals.drop : ∀ {xs : List V} {us : List Value} (n : Nat), Vals xs us → Vals (xs.drop n) (us.drop n)
 | _, _, 0, r => r
 | _, _, _ + 1, .nil => .nil
 | _, _, n + 1, .cons _ t => Vals.drop n t
def RelO : Option V → Option Value → Prop
 | some v, some u => RelV v u
 | none, none => True
 | _, _ => False
def KV {κ : Type} : List (κ × V) → List (κ × Value) → Prop := Paired fun (p : κ × V) (q : κ × Value) => p.1 = q.1 ∧ RelV p.2 q.2
noncomputable def kV : Key → V
 | .inl i => .int i
 | .inr x => .str x
inductive HO where
 | lst (xs : List V)
 | tup (xs : List V)
 | dK (kvs : List (Key × V)) | dT (kvs : List (List Key × V))
 | set (S : Int → Bool) (n : Nat)
 | ins (C dx : Addr) (fs : List (Str × V))
 | own (x : Addr)
 | xd (fs : List (Str × V))
 | met (f x : Addr)
 | rng (lo hi : Int)
 | frz (o : Obj) (u : HO)
 | tbl (ps : Array Value)
 | ext (φ : Heap → Prop)
abbrev Hp := Addr → Option HO
noncomputable def upd (H : Hp) (a : Addr) (o : HO) : Hp := fun b => if b = a then some o else H b
theorem upd_same {H : Hp} {a : Addr} {o : HO} : upd H a o a = some o := by unfold upd; rw [if_pos rfl]
theorem upd_ne {H : Hp} {a b : Addr} {o : HO} (h : b ≠ a) : upd H a o b = H b := by unfold upd; rw [if_neg h]
theorem ne_of {H : Hp} {a b : Addr} {o u : HO} (h : H a = some o) (h' : H b = some u) (d : o ≠ u) : a ≠ b := by
 intro e; subst e; rw [h] at h'; exact d (Option.some.inj h')
theorem ne_of_none {H : Hp} {a b : Addr} {o : HO} (h : H a = some o) (h' : H b = none) : a ≠ b := by
 intro e; subst e; rw [h] at h'; cases h'
section
variable (P : Program) (w : World)
def ObjOk (H : Hp) (h : Heap) (a : Addr) : HO → Prop
  | .lst xs => xs.length ≤ sizeLine ∧ ∃ (its : List Value) (n : Nat), Vals xs its ∧ h.get? a = some { cls := .type "list", data := .seq its.toArray n }
  | .tup xs => xs.length ≤ sizeLine ∧ ∃ its : List Value, Vals xs its ∧ IsTup h a its.toArray
  | .dK kvs => kvs.length ≤ sizeLine ∧ (a == sysModules) = false ∧ ∃ vs, KV kvs vs ∧ h.DictOf (mixKind P w) a vs
  | .dT kvs => kvs.length ≤ sizeLine ∧ (a == sysModules) = false ∧ ∃ xs : List (List Key × Addr × Value),
      Paired (fun (p : List Key × V) (q : List Key × Addr × Value) => p.1 = q.1 ∧ H q.2.1 = some (.tup (p.1.map kV)) ∧ RelV p.2 q.2.2) kvs xs ∧
      ∃ o es ep, h.get? a = some o ∧ o.ExactDict ∧ o.data = .dict es ep ∧ es.toList = xs.map (entryOfKey (tupleKind (mixKind P w))) ∧ (xs.map (·.1)).Nodup
  | .set S n => h.SetOf (intKind P w) a S n
  | .ins C dx fs => H dx = some (.own a) ∧ fs.length ≤ 1000 ∧ dx ≠ a ∧ h.get? a = some (PySem.W.instObj C dx) ∧
      ∃ mA, h.Ns1 dx mA ∧ (∀ f, RelO (fs.lookup f) (mA f)) ∧ PySem.Within mA (fs.map (·.1))
  | .own _ => ∃ o, h.get? a = some o
  | .xd fs => ∃ mA, h.Ns1 a mA ∧ ∀ f, RelO (fs.lookup f) (mA f)
  | .rng lo hi => ∃ t u v, h.get? a = some { cls := .type "range", data := .fields #[.int lo t, .int hi u, .int 1 v] }
  | .frz o u => h.get? a = some o ∧ ObjOk H h a u
  | .tbl ps => h.get? a = some { cls := .none, data := .fields ps }
  | .met f x => h.get? a = some (PySem.W.methodObj (.ref f) (.ref x))
  | .ext φ => φ h ∧ (∃ o, h.get? a = some o) ∧ ∀ h1 h2 : Heap, φ h1 → (∀ o, h1.get? a = some o → h2.get? a = some o) → φ h2
def HOk (H : Hp) (h : Heap) : Prop := ∀ a o, H a = some o → ObjOk P w H h a o
end
section
variable {P : Program} {w : World} {H H' : Hp} {h h' : Heap} {a : Addr} {o : HO}
theorem ObjOk.lt (x : ObjOk P w H h a o) : a < h.objs.size := by
 cases o with
 | lst xs => obtain ⟨_, _, _, _, e⟩ := x; exact Heap.lt_size e
 | tup xs => obtain ⟨_, _, _, p⟩ := x; exact p.lt
 | dK kvs => obtain ⟨_, _, _, _, o, _, _, e, _⟩ := x; exact Heap.lt_size e
 | dT kvs => obtain ⟨_, _, _, _, o, _, _, e, _⟩ := x; exact Heap.lt_size e
 | set S n => obtain ⟨o, _, _, _, e, _⟩ := x; exact Heap.lt_size e
 | ins C dx fs => obtain ⟨_, _, _, e, _⟩ := x; exact Heap.lt_size e
 | own y => obtain ⟨_, e⟩ := x; exact Heap.lt_size e
 | xd fs => obtain ⟨_, ⟨_, _, _, e, _⟩, _⟩ := x; exact Heap.lt_size e
 | rng lo hi => obtain ⟨_, _, _, e⟩ := x; exact Heap.lt_size e
 | frz ob u => obtain ⟨e, _⟩ := x; exact Heap.lt_size e
 | tbl ps => exact Heap.lt_size (show h.get? a = some _ from x)
 | met f y => exact Heap.lt_size (show h.get? a = some _ from x)
 | ext φ => obtain ⟨_, ⟨_, e⟩, _⟩ := x; exact Heap.lt_size e
theorem Paired.mapP {α β : Type} {F G : α → β → Prop} : ∀ {l₁ : List α} {l₂ : List β}, Paired F l₁ l₂ → (∀ a b, F a b → G a b) → Paired G l₁ l₂
 | _, _, .nil, _ => .nil
 | _, _, .cons r t, f => .cons (f _ _ r) (Paired.mapP t f)
theorem ObjOk.stay (x : ObjOk P w H h a o) (k : ∀ b u, (b = a ∨ H b = some (.own a)) → h.get? b = some u → h'.get? b = some u)
    (ho : ∀ b, H b = some (.own a) → H' b = some (.own a)) (ht : ∀ b xs, H b = some (.tup xs) → H' b = some (.tup xs)) : ObjOk P w H' h' a o := by
  induction o with
  | lst xs => obtain ⟨z, its, n, r, e⟩ := x; exact ⟨z, its, n, r, k _ _ (.inl rfl) e⟩
  | tup xs => obtain ⟨z, its, r, ob, e, c⟩ := x; exact ⟨z, its, r, ob, k _ _ (.inl rfl) e, c⟩
  | dK kvs => obtain ⟨z, y, vs, r, ob, es, ep, e, c⟩ := x; exact ⟨z, y, vs, r, ob, es, ep, k _ _ (.inl rfl) e, c⟩
  | dT kvs =>
    obtain ⟨z, y, xs, r, ob, es, ep, e, c⟩ := x
    exact ⟨z, y, xs, Paired.mapP r fun p q z => ⟨z.1, ht _ _ z.2.1, z.2.2⟩, ob, es, ep, k _ _ (.inl rfl) e, c⟩
  | set S n => obtain ⟨ob, es, ep, t, e, c⟩ := x; exact ⟨ob, es, ep, t, k _ _ (.inl rfl) e, c⟩
  | ins C dx fs =>
    obtain ⟨d, z, ne, e, mA, ⟨od, es, ep, e2, c⟩, r⟩ := x
    exact ⟨ho _ d, z, ne, k _ _ (.inl rfl) e, mA, ⟨od, es, ep, k _ _ (.inr d) e2, c⟩, r⟩
  | own y => obtain ⟨ob, e⟩ := x; exact ⟨ob, k _ _ (.inl rfl) e⟩
  | xd fs => obtain ⟨mA, ⟨od, es, ep, e, c⟩, r⟩ := x; exact ⟨mA, ⟨od, es, ep, k _ _ (.inl rfl) e, c⟩, r⟩
  | rng lo hi => obtain ⟨t, u, v, e⟩ := x; exact ⟨t, u, v, k _ _ (.inl rfl) e⟩
  | frz ob u ih => obtain ⟨e, q⟩ := x; exact ⟨k _ _ (.inl rfl) e, ih q⟩
  | tbl ps =>
    have e : h.get? a = some { cls := .none, data := .fields ps } := x
    show h'.get? a = some { cls := .none, data := .fields ps }
    exact k a _ (.inl rfl) e
  | met f y =>
    have e : h.get? a = some (PySem.W.methodObj (.ref f) (.ref y)) := x
    show h'.get? a = some (PySem.W.methodObj (.ref f) (.ref y))
    exact k a _ (.inl rfl) e
  | ext φ => obtain ⟨p, ⟨o, e⟩, st⟩ := x; exact ⟨st _ _ p fun o q => k _ _ (.inl rfl) q, ⟨o, k _ _ (.inl rfl) e⟩, st⟩
theorem HOk.lt (x : HOk P w H h) (e : H a = some o) : a < h.objs.size := (x a o e).lt
theorem HOk.fresh (x : HOk P w H h) (e : h.objs.size ≤ a) : H a = none := by
 cases q : H a with
 | none => rfl
 | some u => exact absurd (Nat.lt_of_lt_of_le (x.lt q) e) (Nat.lt_irrefl _)
theorem HOk.kept (x : HOk P w H h) (k : ∀ b u, h.get? b = some u → h'.get? b = some u) : HOk P w H h' := fun a o e =>
 (x a o e).stay (fun b u _ q => k b u q) (fun _ q => q) fun _ _ q => q
theorem HOk.laid (x : HOk P w H h) (k : ∀ b u, h.get? b = some u → h'.get? b = some u) (hp : h.objs.size ≤ a) (new : ObjOk P w (upd H a o) h' a o) : HOk P w (upd H a o) h' := fun b u e => by
 have hn := x.fresh hp
 by_cases hb : b = a
 · subst hb; rw [upd_same] at e; cases e; exact new
 · rw [upd_ne hb] at e
   exact (x b u e).stay (fun c v _ q => k c v q) (fun c q => by rw [upd_ne (ne_of_none q hn)]; exact q) fun c xs q => by rw [upd_ne (ne_of_none q hn)]; exact q
end
def Rd (H : Hp) (a : Addr) (u : HO) : Prop := H a = some u ∨ ∃ o, H a = some (.frz o u)
theorem Rd.ok {P : Program} {w : World} {H : Hp} {h : Heap} {a : Addr} {u : HO} (r : Rd H a u) (x : HOk P w H h) : ObjOk P w H h a u := by
 rcases r with r | ⟨o, r⟩
 · exact x a u r
 · obtain ⟨_, q⟩ := x a _ r
   exact q
def Mut : Option HO → Prop
 | some (.lst _) => True
 | some (.dK _) => True
 | some (.dT _) => True
 | some (.set _ _) => True
 | some (.ins _ _ _) => True
 | some (.ext _) => True
 | _ => False
section
variable {P : Program} {w : World} {H : Hp} {h h' : Heap} {x e : Addr} {o' : HO}
theorem HOk.write (ok : HOk P w H h) (mu : Mut (H x)) (he : e = x ∨ H e = some (.own x)) (k : ∀ b u, b ≠ e → h.get? b = some u → h'.get? b = some u) (heo : ∃ u, h'.get? e = some u)
    (new : ObjOk P w (upd H x o') h' x o') : HOk P w (upd H x o') h' := fun b u q => by
  have nown : ∀ c y, H c = some (.own y) → c ≠ x := fun c y r z => by subst z; rw [r] at mu; exact mu
  have ntup : ∀ c xs, H c = some (.tup xs) → c ≠ x := fun c xs r z => by subst z; rw [r] at mu; exact mu
  by_cases hb : b = x
  · subst hb; rw [upd_same] at q; cases q; exact new
  · rw [upd_ne hb] at q
    by_cases hbe : b = e
    · have q' : H b = some (.own x) := by
        rcases he with z | z
        · exact absurd (hbe.trans z) hb
        · rw [hbe]; exact z
      rw [q] at q'; cases q'
      obtain ⟨v, hv⟩ := heo
      exact ⟨v, by rw [hbe]; exact hv⟩
    · refine (ok b u q).stay (fun c v hc r => k c v ?_ r) (fun c r => by rw [upd_ne (nown c b r)]; exact r) fun c xs r => by rw [upd_ne (ntup c xs r)]; exact r
      rcases hc with rfl | hc
      · exact hbe
      · rintro rfl
        rcases he with z | z
        · exact nown c b hc z
        · rw [hc] at z; cases z; exact hb rfl
end
structure Un (fs ex : List Addr) (H H' : Hp) (h h' : Heap) : Prop where
 keep : ∀ b o, h.get? b = some o → H b = none → b ∉ fs → b ∉ ex → h'.get? b = some o
 slot : ∀ b o, h.get? b = some o → H b = none → b ∈ fs → b ∉ ex → ∃ sl, h'.get? b = some { o with slots := sl }
 free : ∀ b o, h.get? b = some o → H b = none → b ∉ ex → H' b = none
 there : ∀ b o, h.get? b = some o → b ∉ ex → ∃ o', h'.get? b = some o'
 tups : ∀ b xs, H b = some (.tup xs) → H' b = some (.tup xs)
 frzs : ∀ b o u, H b = some (.frz o u) → H' b = some (.frz o u)
 tbls : ∀ b ps, H b = some (.tbl ps) → ∃ more, H' b = some (.tbl (ps ++ more))
section
variable {fs fs' ex ex' : List Addr} {H H1 H2 : Hp} {h h1 h2 h' : Heap} {a x e : Addr} {o : HO}
theorem Un.any (u : Un fs ex H H1 h h1) {b : Addr} {ob : Obj} (q : h.get? b = some ob) (n : H b = none) (hx : b ∉ ex) : ∃ sl, h1.get? b = some { ob with slots := sl } := by
 by_cases hb : b ∈ fs
 · exact u.slot b ob q n hb hx
 · exact ⟨ob.slots, u.keep b ob q n hb hx⟩
theorem Un.trans (a : Un fs ex H H1 h h1) (b : Un fs ex H1 H2 h1 h2) : Un fs ex H H2 h h2 where
 keep := fun c ob q n hc hx => b.keep c ob (a.keep c ob q n hc hx) (a.free c ob q n hx) hc hx
 slot := fun c ob q n hc hx => by
  obtain ⟨sl, e1⟩ := a.slot c ob q n hc hx
  obtain ⟨sl', e2⟩ := b.slot c _ e1 (a.free c ob q n hx) hc hx
  exact ⟨sl', e2⟩
 free := fun c ob q n hx => by
  obtain ⟨o', e1⟩ := a.there c ob q hx
  exact b.free c o' e1 (a.free c ob q n hx) hx
 there := fun c ob q hx => by
  obtain ⟨o', e1⟩ := a.there c ob q hx
  exact b.there c o' e1 hx
 tups := fun c xs q => b.tups c xs (a.tups c xs q)
 frzs := fun c ob xs q => b.frzs c ob xs (a.frzs c ob xs q)
 tbls := fun c ps q => by
  obtain ⟨m1, e1⟩ := a.tbls c ps q
  obtain ⟨m2, e2⟩ := b.tbls c _ e1
  exact ⟨m1 ++ m2, by rw [e2, Array.append_assoc]⟩
theorem Un.kept (k : ∀ b u, h.get? b = some u → h'.get? b = some u) : Un fs ex H H h h' :=
 ⟨fun b ob q _ _ _ => k b ob q, fun b ob q _ _ _ => ⟨ob.slots, k b ob q⟩, fun _ _ _ n _ => n, fun b ob q _ => ⟨ob, k b ob q⟩, fun _ _ q => q, fun _ _ _ q => q, fun _ ps q => ⟨#[], by rw [q]; simp⟩⟩
theorem Un.refl : Un fs ex H H h h := Un.kept fun _ _ q => q
theorem Un.laid (k : ∀ b u, h.get? b = some u → h'.get? b = some u) (hp : h.objs.size ≤ a) (hn : H a = none) : Un fs ex H (upd H a o) h h' where
 keep := fun b u q _ _ _ => k b u q
 slot := fun b u q _ _ _ => ⟨u.slots, k b u q⟩
 free := fun b u q n _ => by rw [upd_ne (Nat.ne_of_lt (Nat.lt_of_lt_of_le (Heap.lt_size q) hp))]; exact n
 there := fun b u q _ => ⟨u, k b u q⟩
 tups := fun b xs q => by rw [upd_ne (ne_of_none q hn)]; exact q
 frzs := fun b u xs q => by rw [upd_ne (ne_of_none q hn)]; exact q
 tbls := fun b ps q => ⟨#[], by rw [upd_ne (ne_of_none q hn), q]; simp⟩
theorem Un.write (mu : Mut (H x)) (he : e = x ∨ H e = some (.own x)) (k : ∀ b u, b ≠ e → h.get? b = some u → h'.get? b = some u) (heo : ∃ u, h'.get? e = some u) : Un fs ex H (upd H x o) h h' := by
 have hx : ∀ b, H b = none → b ≠ x := fun b n z => by subst z; rw [n] at mu; exact mu
 have hb : ∀ b, H b = none → b ≠ e := fun b n z => by
  subst z
  rcases he with r | r
  · exact hx b n r
  · rw [n] at r; cases r
 have hm : ∀ b u, H b = some u → ¬ Mut (some u) → b ≠ x := fun b u q nm z => by subst z; rw [q] at mu; exact nm mu
 refine ⟨fun b u q n _ _ => k b u (hb b n) q, fun b u q n _ _ => ⟨u.slots, k b u (hb b n) q⟩, fun b u q n _ => by rw [upd_ne (hx b n)]; exact n, fun b u q _ => ?_,
  fun b xs q => by rw [upd_ne (hm b _ q fun z => z)]; exact q, fun b u xs q => by rw [upd_ne (hm b _ q fun z => z)]; exact q, fun b ps q => ⟨#[], by rw [upd_ne (hm b _ q fun z => z), q]; simp⟩⟩
 by_cases hbe : b = e
 · subst hbe; exact heo
 · exact ⟨u, k b u hbe q⟩
end
noncomputable def trk (h : Heap) (H : Hp) : List Addr := (List.range h.objs.size).filter fun a => (H a).isSome
noncomputable def hidT (h : Heap) (H : Hp) : Heap := PySem.W.hideAll h (trk h H)
theorem hidT_size (h : Heap) (H : Hp) : (hidT h H).objs.size = h.objs.size := PySem.W.hideAll_size _ _
theorem hidT_get {h : Heap} {H : Hp} {b : Addr} {o : Obj} (e : h.get? b = some o) (n : H b = none) : (hidT h H).get? b = some o :=
 PySem.W.hideAll_get _ e fun hm => by
  have q : (H b).isSome = true := (List.mem_filter.mp hm).2
  rw [n] at q; simp at q
theorem of_hidT {h : Heap} {H : Hp} {b : Addr} {o : Obj} (e : (hidT h H).get? b = some o) : h.get? b = some o ∧ H b = none := by
 have e' : h.get? b = some o := PySem.W.of_hideAll (trk h H) e
 refine ⟨e', ?_⟩
 cases q : H b with
 | none => rfl
 | some x =>
  have hm : b ∈ trk h H := List.mem_filter.mpr ⟨List.mem_range.mpr (Heap.lt_size e'), by simp [q]⟩
  have z : (hidT h H).get? b = none := PySem.W.hideAll_none (trk h H) hm
  rw [z] at e; cases e
noncomputable def allNews (g h : Heap) (L : Addr) : List (Addr × Obj) := (List.range h.objs.size).filterMap fun a => if a = L ∨ (g.get? a).isSome = true then none else (h.get? a).map fun o => (a, o)
noncomputable def rest (g h : Heap) (L d : Addr) : List (Addr × Obj) := (allNews g h L).filter fun p => decide (p.1 ≠ d)
end L2
namespace L2
open PySem PySem.Spec PyProof.Rows
structure Mod (K : PySem.W.Frag) (mg : Str → Option Value) (base : Heap) : Prop where
 kin : K.In base
 glob : base.Ns mainGlobals mg
 blt : ∃ mb, base.Ns builtinsNs mb ∧ ∀ x : Str, x ≠ "__name__" → mb x = bootBuiltins x
 nolimit : base.NoLimit
structure Cx where
 prog : Program
 w : World
 K : PySem.W.Frag
 mg : Str → Option Value
 base : Heap
 A : Around
 N : List Str
 s₀ : Shared
 H₀ : Hp
 env : Env
 outer : List Env
 stack : List Env
 ex : List Addr
 fn : Str → Bool
 calm : Bool
 pn : List (Addr × Obj)
 xe : Value → Shared → Prop
noncomputable def frs (l : List Env) : List Addr := l.filterMap (·.frame)
abbrev Cx.fs (X : Cx) : List Addr := frs X.outer
def Vis (sc : Scope) (x : Str) : Prop := sc.names.lookup x = some .local ∨ sc.names.lookup x = some .cell ∨ sc.names.lookup x = some .free
def Loc (sc : Scope) (x : Str) : Prop := sc.names.lookup x = some .local ∨ sc.names.lookup x = some .cell
def Look (env : Env) (h : Heap) (m : Str → Option Value) (x : Str) (u : Value) : Prop :=
 (env.kindOf x = some .local ∧ m x = some u) ∨ ((env.kindOf x = some .cell ∨ env.kindOf x = some .free) ∧ ∃ c, env.cells.lookup x = some c ∧ h.IsCell c (some u))
structure Cx.Ok (X : Cx) : Prop where
 mod : Mod X.K X.mg X.base
 kind : X.env.scope.kind = .function
 glob : X.env.globals = mainGlobals
 blt : X.env.builtins = builtinsNs
 above : X.s₀.heap.objs.size ≤ X.env.locals
 inj : ∀ x y c, X.env.cells.lookup x = some c → X.env.cells.lookup y = some c → x = y
 has : ∀ x, (X.env.kindOf x = some .cell ∨ X.env.kindOf x = some .free) → ∃ c, X.env.cells.lookup x = some c
 cab : ∀ x c, X.fn x = true → X.env.cells.lookup x = some c → X.s₀.heap.objs.size ≤ c
 hd : X.calm = true → X.A.handled = none
 frames : X.A.frames = some X.stack
 stk : X.stack = X.outer ∨ (X.stack = X.env :: X.outer ∧ X.env.frame = some X.env.locals)
 exf : ∀ b ∈ X.ex, b ≠ X.env.locals ∧ ∀ x c, X.env.cells.lookup x = some c → c ≠ b
 bs : ∀ b o, X.base.get? b = some o → X.s₀.heap.get? b = some o ∧ X.H₀ b = none
 bsz : X.base.objs.size ≤ X.s₀.heap.objs.size
 noex : ∀ b o, X.base.get? b = some o → b ∉ X.ex
 exfs : ∀ b ∈ X.ex, b ∉ X.fs
 funs : X.s₀.heap.FunFrames X.base X.outer
 frf : ∀ b ∈ X.fs, X.H₀ b = none
structure Inv (X : Cx) (pins : List (Addr × Obj)) (σ : List (Option V)) (H : Hp) (s : Shared) : Prop where
 ok : X.Ok
 os : s.os = X.s₀.os
 bare : AllBare s.gens
 base : Un X.fs X.ex X.H₀ H X.s₀.heap s.heap
 loc : ∃ m, s.heap.Ns X.env.locals m ∧ ∀ (i : Nat) (x : Str) (v : V), X.N[i]? = some x → σ[i]? = some (some v) → Vis X.env.scope x → ∃ u, RelV v u ∧ Look X.env s.heap m x u
 cell : ∀ x c, X.env.cells.lookup x = some c → ∃ v, s.heap.IsCell c v
 free : H X.env.locals = none
 freeC : ∀ x c, X.env.cells.lookup x = some c → H c = none
 pin : ∀ p ∈ X.pn ++ pins, s.heap.get? p.1 = some p.2 ∧ H p.1 = none ∧ p.1 ≠ X.env.locals ∧ p.1 ∉ X.fs ∧ ∀ v, p.2.data ≠ .cell v
 hok : HOk X.prog X.w H s.heap
 len : σ.length = X.N.length
section
variable {X : Cx} {pins : List (Addr × Obj)} {σ : List (Option V)} {H H' : Hp} {s : Shared} {h' : Heap}
theorem Cx.Ok.nofr (ok : X.Ok) {b : Addr} {o : Obj} (e : X.base.get? b = some o) : b ∉ X.fs := fun hb => by
 have := (ok.funs.mem hb).1
 rw [e] at this; cases this
theorem Inv.bs (I : Inv X pins σ H s) : ∀ b o, X.base.get? b = some o → s.heap.get? b = some o ∧ H b = none := fun b o e =>
 ⟨I.base.keep b o (I.ok.bs b o e).1 (I.ok.bs b o e).2 (I.ok.nofr e) (I.ok.noex b o e), I.base.free b o (I.ok.bs b o e).1 (I.ok.bs b o e).2 (I.ok.noex b o e)⟩
theorem Inv.bk (I : Inv X pins σ H s) : ∀ b o, X.base.get? b = some o → s.heap.get? b = some o := fun b o e => (I.bs b o e).1
theorem Inv.mod (I : Inv X pins σ H s) : Mod X.K X.mg X.base := I.ok.mod
theorem Inv.kIn (I : Inv X pins σ H s) : X.K.In s.heap := I.ok.mod.kin.keeps I.bk
theorem Inv.lt (I : Inv X pins σ H s) : X.env.locals < s.heap.objs.size := let ⟨_, hn, _⟩ := I.loc; hn.lt
theorem Inv.sz (I : Inv X pins σ H s) : X.s₀.heap.objs.size ≤ s.heap.objs.size := Nat.le_trans I.ok.above (Nat.le_of_lt I.lt)
theorem Inv.nofs (I : Inv X pins σ H s) {a : Addr} (h : s.heap.objs.size ≤ a) : a ∉ X.fs := fun hb => by
 obtain ⟨_, o, ho, _⟩ := I.ok.funs.mem hb
 exact absurd (Nat.lt_of_lt_of_le (Heap.lt_size ho) (Nat.le_trans I.sz h)) (Nat.lt_irrefl _)
theorem Inv.cne (I : Inv X pins σ H s) : ∀ x c, X.env.cells.lookup x = some c → c ≠ X.env.locals := fun x c e z => by
 obtain ⟨v, o, ho, hd⟩ := I.cell x c e
 obtain ⟨m, ⟨o', es, ep, ho', hd', _⟩, _⟩ := I.loc
 rw [z, ho'] at ho; cases ho; rw [hd'] at hd; cases hd
theorem Inv.funs (I : Inv X pins σ H s) : s.heap.FunFrames X.base X.outer := by
 have all : ∀ (l : List Env), (∀ b ∈ frs l, b ∈ X.fs) → X.s₀.heap.FunFrames X.base l → s.heap.FunFrames X.base l := by
  intro l
  induction l with
  | nil => intro _ _; trivial
  | cons env r ih =>
   intro hs hl
   obtain ⟨hk, ⟨L, o, hf, hn, ho, hd⟩, hr⟩ := hl
   have hL : L ∈ X.fs := hs L (by unfold frs; rw [List.filterMap_cons, hf]; exact List.mem_cons_self)
   obtain ⟨sl, e⟩ := I.base.slot L o ho (I.ok.frf L hL) hL fun z => I.ok.exfs L z hL
   exact ⟨hk, ⟨L, _, hf, hn, e, hd⟩, ih (fun b hb => hs b (by unfold frs; rw [List.filterMap_cons, hf]; exact List.mem_cons_of_mem _ hb)) hr⟩
 exact all X.outer (fun _ hb => hb) I.ok.funs
theorem Inv.stack (I : Inv X pins σ H s) : s.heap.FunFrames X.base X.stack := by
 rcases I.ok.stk with e | ⟨e, hf⟩
 · rw [e]; exact I.funs
 · rw [e]
   obtain ⟨m, hn, _⟩ := I.loc
   refine .cons (by rw [I.ok.kind]; decide) hf hn ?_ I.funs
   exact Heap.get?_none_of_le (Nat.le_trans I.ok.bsz I.ok.above)
theorem Inv.stkSub (I : Inv X pins σ H s) : ∀ b ∈ frs X.stack, b ∈ X.env.locals :: X.fs := fun b hb => by
 rcases I.ok.stk with e | ⟨e, hf⟩
 · rw [e] at hb; exact List.mem_cons_of_mem _ hb
 · rw [e] at hb
   unfold frs at hb
   rw [List.filterMap_cons, hf] at hb
   exact hb
theorem Inv.stkFree (I : Inv X pins σ H s) : ∀ b ∈ frs X.stack, H b = none := fun b hb => by
 rcases List.mem_cons.mp (I.stkSub b hb) with e | hb
 · rw [e]; exact I.free
 · obtain ⟨_, o, ho, _⟩ := I.ok.funs.mem hb
   exact I.base.free b o ho (I.ok.frf b hb) fun z => I.ok.exfs b z hb
theorem Inv.step {g' : Array GenState} {t' : Nat} {d' : Drawn} {ch : List Addr} (I : Inv X pins σ H s)
    (hch : ∀ b ∈ ch, (b ∈ X.ex ∨ X.s₀.heap.objs.size ≤ b) ∧ b ≠ X.env.locals ∧ (∀ x c, X.env.cells.lookup x = some c → c ≠ b) ∧ ∀ p ∈ X.pn ++ pins, p.1 ≠ b)
    (keep : ∀ b o, b ≠ X.env.locals → b ∉ X.fs → b ∉ ch → s.heap.get? b = some o → H b = none → h'.get? b = some o)
    (slot : ∀ b o, b ≠ X.env.locals → b ∈ X.fs → b ∉ ch → s.heap.get? b = some o → H b = none → ∃ sl, h'.get? b = some { o with slots := sl }) (free : ∀ b o, b ∉ ch → s.heap.get? b = some o → H b = none → H' b = none)
    (there : ∀ b o, b ∉ ch → s.heap.get? b = some o → ∃ o', h'.get? b = some o')
    (tups : ∀ b xs, H b = some (.tup xs) → H' b = some (.tup xs)) (frzs : ∀ b o u, H b = some (.frz o u) → H' b = some (.frz o u)) (tbls : ∀ b ps, H b = some (.tbl ps) → ∃ more, H' b = some (.tbl (ps ++ more)))
    (ns : ∀ m, s.heap.Ns X.env.locals m → h'.Ns X.env.locals m) (hok : HOk X.prog X.w H' h') (hg : AllBare g') :
    Inv X pins σ H' { s with heap := h', gens := g', drawn := d', toks := t' } := by
  have neL : ∀ b o, X.s₀.heap.get? b = some o → b ≠ X.env.locals := fun b o e => Nat.ne_of_lt (Nat.lt_of_lt_of_le (Heap.lt_size e) I.ok.above)
  have neC : ∀ b o, X.s₀.heap.get? b = some o → b ∉ X.ex → b ∉ ch := fun b o e hx hb => by
    rcases (hch b hb).1 with z | z
    · exact hx z
    · exact absurd (Nat.lt_of_lt_of_le (Heap.lt_size e) z) (Nat.lt_irrefl _)
  have cellK : ∀ x c, X.env.cells.lookup x = some c → ∀ v, s.heap.IsCell c v → h'.IsCell c v := fun x c e v ⟨o, ho, hd⟩ => by
    have nch : c ∉ ch := fun z => (hch c z).2.2.1 x c e rfl
    by_cases hc : c ∈ X.fs
    · obtain ⟨sl, q⟩ := slot c o (I.cne x c e) hc nch ho (I.freeC x c e)
      exact ⟨_, q, hd⟩
    · exact ⟨o, keep c o (I.cne x c e) hc nch ho (I.freeC x c e), hd⟩
  refine ⟨I.ok, I.os, hg, ⟨fun b o e n hb hx => ?_, fun b o e n hb hx => ?_, fun b o e n hx => ?_, fun b o e hx => ?_, fun b xs e => tups b xs (I.base.tups b xs e), fun b o xs e => frzs b o xs (I.base.frzs b o xs e), fun b ps e => ?_⟩, ?_, fun x c e => ?_, ?_, fun x c e => ?_, fun p hp => ?_, hok, I.len⟩
  · exact keep b o (neL b o e) hb (neC b o e hx) (I.base.keep b o e n hb hx) (I.base.free b o e n hx)
  · obtain ⟨sl, e1⟩ := I.base.slot b o e n hb hx
    obtain ⟨sl', e2⟩ := slot b _ (neL b o e) hb (neC b o e hx) e1 (I.base.free b o e n hx)
    exact ⟨sl', e2⟩
  · obtain ⟨o', e1⟩ := I.base.there b o e hx
    exact free b o' (neC b o e hx) e1 (I.base.free b o e n hx)
  · obtain ⟨o', e1⟩ := I.base.there b o e hx
    exact there b o' (neC b o e hx) e1
  · obtain ⟨m1, e1⟩ := I.base.tbls b ps e
    obtain ⟨m2, e2⟩ := tbls b _ e1
    exact ⟨m1 ++ m2, by rw [e2, Array.append_assoc]⟩
  · obtain ⟨m, hn, hl⟩ := I.loc
    refine ⟨m, ns m hn, fun i x v e1 e2 e3 => ?_⟩
    obtain ⟨u, r, l⟩ := hl i x v e1 e2 e3
    refine ⟨u, r, ?_⟩
    rcases l with l | ⟨k, c, e, z⟩
    · exact .inl l
    · exact .inr ⟨k, c, e, cellK x c e _ z⟩
  · obtain ⟨v, z⟩ := I.cell x c e
    exact ⟨v, cellK x c e v z⟩
  · obtain ⟨m, ⟨o, _, _, ho, _⟩, _⟩ := I.loc
    exact free _ o (fun z => (hch _ z).2.1 rfl) ho I.free
  · obtain ⟨v, o, ho, hd⟩ := I.cell x c e
    exact free c o (fun z => (hch c z).2.2.1 x c e rfl) ho (I.freeC x c e)
  · obtain ⟨e, n, ne, nf, d⟩ := I.pin p hp
    have nch : p.1 ∉ ch := fun z => (hch p.1 z).2.2.2 p hp rfl
    exact ⟨keep p.1 p.2 ne nf nch e n, free p.1 p.2 nch e n, ne, nf, d⟩
theorem Inv.un {t' : Nat} (I : Inv X pins σ H s) (u : Un X.fs [] H H' s.heap h') (hok : HOk X.prog X.w H' h') : Inv X pins σ H' { s with heap := h', toks := t' } := by
 obtain ⟨m, ⟨o, es, ep, ho, r⟩, _⟩ := id I.loc
 obtain ⟨sl, hL⟩ := u.any ho I.free (by simp)
 exact I.step (g' := s.gens) (d' := s.drawn) (ch := []) (fun _ z => nomatch z) (fun b o _ hb _ e n => u.keep b o e n hb (by simp)) (fun b o _ hb _ e n => u.slot b o e n hb (by simp)) (fun b o _ e n => u.free b o e n (by simp)) (fun b o _ e => u.there b o e (by simp)) u.tups u.frzs u.tbls (fun m' hm => by
  obtain ⟨o', es', ep', ho', r'⟩ := hm
  rw [ho] at ho'; cases ho'
  exact ⟨_, es', ep', hL, r'⟩) hok I.bare
theorem Inv.call {g' : Array GenState} {t' : Nat} {d' : Drawn} {ch : List Addr} (I : Inv X pins σ H s) (u : Un (frs X.stack) ch H H' s.heap h') (hok : HOk X.prog X.w H' h') (hg : AllBare g')
    (hch : ∀ b ∈ ch, (b ∈ X.ex ∨ X.s₀.heap.objs.size ≤ b) ∧ b ≠ X.env.locals ∧ (∀ x c, X.env.cells.lookup x = some c → c ≠ b) ∧ ∀ p ∈ X.pn ++ pins, p.1 ≠ b) :
    Inv X pins σ H' { s with heap := h', gens := g', drawn := d', toks := t' } := by
  obtain ⟨m, ⟨o, es, ep, ho, r⟩, _⟩ := id I.loc
  obtain ⟨sl, hL⟩ := u.any ho I.free fun z => (hch _ z).2.1 rfl
  exact I.step (ch := ch) hch (fun b o hL hb hc e n => u.keep b o e n (fun z => (List.mem_cons.mp (I.stkSub b z)).elim hL hb) hc) (fun b o _ _ hc e n => u.any e n hc) (fun b o hc e n => u.free b o e n hc) (fun b o hc e => u.there b o e hc) u.tups u.frzs u.tbls (fun m' hm => by
    obtain ⟨o', es', ep', ho', r'⟩ := hm
    rw [ho] at ho'; cases ho'
    exact ⟨_, es', ep', hL, r'⟩) hok hg
theorem Inv.turned {t' : Nat} {it : Addr} (I : Inv X pins σ H s) (k : ∀ b o, b ≠ it → s.heap.get? b = some o → h'.get? b = some o) (hn : H it = none) (hL : it ≠ X.env.locals)
    (h1 : it ∈ X.ex ∨ X.s₀.heap.objs.size ≤ it) (h2 : ∀ x c, X.env.cells.lookup x = some c → c ≠ it) (h3 : ∀ p ∈ X.pn ++ pins, p.1 ≠ it) : Inv X pins σ H { s with heap := h', toks := t' } := by
  have nit : ∀ b u, H b = some u → b ≠ it := fun b u e z => by rw [z, hn] at e; cases e
  refine I.step (g' := s.gens) (d' := s.drawn) (ch := [it]) (fun b hb => ?_) (fun b o _ _ hc e _ => k b o (fun z => hc (by simp [z])) e) (fun b o _ _ hc e _ => ⟨o.slots, k b o (fun z => hc (by simp [z])) e⟩) (fun _ _ _ _ n => n)
    (fun b o hc e => ⟨o, k b o (fun z => hc (by simp [z])) e⟩) (fun _ _ e => e) (fun _ _ _ e => e) (fun b ps e => ⟨#[], by rw [e]; simp⟩) (fun m hm => ?_) (fun b u e => ?_) I.bare
  · have e : b = it := by simpa using hb
    subst e
    exact ⟨h1, hL, h2, h3⟩
  · obtain ⟨o, es, ep, ho, r⟩ := hm
    exact ⟨o, es, ep, k _ o (Ne.symm hL) ho, r⟩
  · refine (I.hok b u e).stay (fun c v hc q => k c v ?_ q) (fun _ q => q) fun _ _ q => q
    rcases hc with z | z
    · rw [z]; exact nit b u e
    · exact nit c _ z
theorem Inv.tok (I : Inv X pins σ H s) (t : Nat) : Inv X pins σ H { s with toks := t } := I.un (h' := s.heap) (t' := t) Un.refl I.hok
theorem Inv.kept {t' : Nat} (I : Inv X pins σ H s) (k : ∀ b u, s.heap.get? b = some u → h'.get? b = some u) : Inv X pins σ H { s with heap := h', toks := t' } := I.un (Un.kept k) (I.hok.kept k)
theorem Inv.laid {a : Addr} {o : HO} {t' : Nat} (I : Inv X pins σ H s) (k : ∀ b u, s.heap.get? b = some u → h'.get? b = some u) (hp : s.heap.objs.size ≤ a) (new : ObjOk X.prog X.w (upd H a o) h' a o) :
    Inv X pins σ (upd H a o) { s with heap := h', toks := t' } := I.un (Un.laid k hp (I.hok.fresh hp)) (I.hok.laid k hp new)
theorem Inv.write {x e : Addr} {o : HO} {t' : Nat} (I : Inv X pins σ H s) (mu : Mut (H x)) (he : e = x ∨ H e = some (.own x)) (k : ∀ b u, b ≠ e → s.heap.get? b = some u → h'.get? b = some u) (heo : ∃ u, h'.get? e = some u)
    (new : ObjOk X.prog X.w (upd H x o) h' x o) : Inv X pins σ (upd H x o) { s with heap := h', toks := t' } := I.un (Un.write mu he k heo) (I.hok.write mu he k heo new)
theorem Inv.pins_of {pins' : List (Addr × Obj)} (I : Inv X pins σ H s) (h : ∀ p ∈ pins', s.heap.get? p.1 = some p.2 ∧ H p.1 = none ∧ p.1 ≠ X.env.locals ∧ p.1 ∉ X.fs ∧ ∀ v, p.2.data ≠ .cell v) : Inv X pins' σ H s :=
 ⟨I.ok, I.os, I.bare, I.base, I.loc, I.cell, I.free, I.freeC, fun p hp => (List.mem_append.mp hp).elim (fun z => I.pin p (List.mem_append_left _ z)) (h p), I.hok, I.len⟩
theorem nodup_ix {N : List Str} (hN : N.Nodup) {i j : Nat} {x : Str} (a : N[i]? = some x) (b : N[j]? = some x) : i = j := by
 obtain ⟨h1, e1⟩ := List.getElem?_eq_some_iff.mp a
 obtain ⟨h2, e2⟩ := List.getElem?_eq_some_iff.mp b
 exact (List.getElem_inj hN).mp (e1.trans e2.symm)
theorem store_ok2 {M : Model} {A : Around} {E : Value → Shared → Prop} {i : Nat} {x : Str} {v : V} {u : Value} {Q : Unit → Shared → Prop} (I : Inv X pins σ H s) (hN : X.N.Nodup) (hi : X.N[i]? = some x) (hx : Loc X.env.scope x) (r : RelV v u)
    (h : ∀ s', Inv X pins (σ.set i (some v)) H s' → (∃ a, Heap.SameBut a s.heap s'.heap ∧ (a = X.env.locals ∨ X.env.cells.lookup x = some a)) → Q () s') (hf : X.fn x = true ∨ X.env.scope.names.lookup x = some .local := by first | exact .inl rfl | exact .inr rfl | assumption) : wpAny M A (storeName X.env x u) Q E s := by
  obtain ⟨m, hn, hl⟩ := id I.loc
  have hcls : (X.env.scope.kind == .class || (X.env.scope.kind == .module && X.env.locals != X.env.globals)) = false := by rw [I.ok.kind]; rfl
  have hiσ : i < σ.length := by rw [I.len]; exact (List.getElem?_eq_some_iff.mp hi).1
  have cne := I.cne
  have tracked : ∀ {a : Addr} {h' : Heap}, (∃ o, s.heap.get? a = some o ∧ H a = none) → Heap.SameBut a s.heap h' → HOk X.prog X.w H h' := fun {a h'} ha hs b ob e => by
    obtain ⟨_, _, hfree⟩ := ha
    refine (I.hok b ob e).stay (fun c w' hc q => (hs.2 c ?_).trans q) (fun _ q => q) fun _ _ q => q
    rintro rfl
    rcases hc with rfl | hc
    · rw [hfree] at e; cases e
    · rw [hfree] at hc; cases hc
  rcases hx with hk | hk
  · refine wpAny_storeName_local hk hn (fun h' hn' hs => ?_) hcls
    obtain ⟨oL, _, _, hoL, _⟩ := id hn
    refine h _ ⟨I.ok, I.os, I.bare, ⟨fun b o e n hb hx => ?_, fun b o e n hb hx => ?_, I.base.free, fun b o e hx => ?_, I.base.tups, I.base.frzs, I.base.tbls⟩, ⟨_, hn', fun j y v' e1 e2 e3 => ?_⟩, fun y c e => ?_, I.free, I.freeC, fun p hp => ?_, tracked ⟨oL, hoL, I.free⟩ hs, by simpa using I.len⟩ ⟨_, hs, .inl rfl⟩
    · exact (hs.2 b (Nat.ne_of_lt (Nat.lt_of_lt_of_le (Heap.lt_size e) I.ok.above))).trans (I.base.keep b o e n hb hx)
    · obtain ⟨sl, e1⟩ := I.base.slot b o e n hb hx
      exact ⟨sl, (hs.2 b (Nat.ne_of_lt (Nat.lt_of_lt_of_le (Heap.lt_size e) I.ok.above))).trans e1⟩
    · obtain ⟨o', e1⟩ := I.base.there b o e hx
      exact ⟨o', (hs.2 b (Nat.ne_of_lt (Nat.lt_of_lt_of_le (Heap.lt_size e) I.ok.above))).trans e1⟩
    · by_cases hj : j = i
      · subst hj
        rw [hi] at e1; cases e1
        rw [List.getElem?_set_self hiσ] at e2
        cases e2
        exact ⟨u, r, .inl ⟨hk, by simp⟩⟩
      · rw [List.getElem?_set_ne (Ne.symm hj)] at e2
        obtain ⟨u', r', q⟩ := hl j y v' e1 e2 e3
        refine ⟨u', r', ?_⟩
        rcases q with ⟨k, e⟩ | ⟨k, c, e, z⟩
        · refine .inl ⟨k, ?_⟩
          have : y ≠ x := fun e => hj (nodup_ix hN e1 (e ▸ hi))
          simp [this, e]
        · exact .inr ⟨k, c, e, z.sameBut hs (cne y c e)⟩
    · obtain ⟨w', z⟩ := I.cell y c e
      exact ⟨w', z.sameBut hs (cne y c e)⟩
    · obtain ⟨e, n, ne, nf, d⟩ := I.pin p hp
      exact ⟨(hs.2 p.1 ne).trans e, n, ne, nf, d⟩
  · have hfn : X.fn x = true := by
      rcases hf with z | z
      · exact z
      · rw [z] at hk; cases hk
    obtain ⟨c, hc⟩ := I.ok.has x (.inl hk)
    obtain ⟨w', z⟩ := I.cell x c hc
    refine wpAny_storeName_cell I.ok.kind hk hc z (fun h' hc' hs => ?_)
    obtain ⟨oc, hoc, hocd⟩ := id z
    refine h { s with heap := h' } ⟨I.ok, I.os, I.bare, ⟨fun b o e n hb hx => ?_, fun b o e n hb hx => ?_, I.base.free, fun b o e hx => ?_, I.base.tups, I.base.frzs, I.base.tbls⟩, ⟨m, hn.sameBut hs (Ne.symm (cne x c hc)), fun j y v' e1 e2 e3 => ?_⟩, fun y c' e => ?_, I.free, I.freeC, fun p hp => ?_, tracked ⟨oc, hoc, I.freeC x c hc⟩ hs, by simpa using I.len⟩ ⟨c, hs, .inr hc⟩
    · exact (hs.2 b (Nat.ne_of_lt (Nat.lt_of_lt_of_le (Heap.lt_size e) (I.ok.cab x c hfn hc)))).trans (I.base.keep b o e n hb hx)
    · obtain ⟨sl, e1⟩ := I.base.slot b o e n hb hx
      exact ⟨sl, (hs.2 b (Nat.ne_of_lt (Nat.lt_of_lt_of_le (Heap.lt_size e) (I.ok.cab x c hfn hc)))).trans e1⟩
    · obtain ⟨o', e1⟩ := I.base.there b o e hx
      exact ⟨o', (hs.2 b (Nat.ne_of_lt (Nat.lt_of_lt_of_le (Heap.lt_size e) (I.ok.cab x c hfn hc)))).trans e1⟩
    · by_cases hj : j = i
      · subst hj
        rw [hi] at e1; cases e1
        rw [List.getElem?_set_self hiσ] at e2
        cases e2
        exact ⟨u, r, .inr ⟨.inl hk, c, hc, hc'⟩⟩
      · rw [List.getElem?_set_ne (Ne.symm hj)] at e2
        obtain ⟨u', r', q⟩ := hl j y v' e1 e2 e3
        refine ⟨u', r', ?_⟩
        rcases q with q | ⟨k, c', e, z'⟩
        · exact .inl q
        · refine .inr ⟨k, c', e, z'.sameBut hs ?_⟩
          rintro rfl
          exact hj (nodup_ix hN e1 (I.ok.inj _ _ _ e hc ▸ hi))
    · by_cases hcc : c' = c
      · subst hcc; exact ⟨_, hc'⟩
      · obtain ⟨w2, z2⟩ := I.cell y c' e
        exact ⟨w2, z2.sameBut hs hcc⟩
    · obtain ⟨e, n, ne, nf, d⟩ := I.pin p hp
      refine ⟨(hs.2 p.1 ?_).trans e, n, ne, nf, d⟩
      intro q
      rw [q, hoc] at e
      have q' : oc = p.2 := Option.some.inj e
      exact d w' (by rw [← q']; exact hocd)
theorem store_ok {M : Model} {A : Around} {E : Value → Shared → Prop} {i : Nat} {x : Str} {v : V} {u : Value} {Q : Unit → Shared → Prop} (I : Inv X pins σ H s) (hN : X.N.Nodup) (hi : X.N[i]? = some x) (hx : Loc X.env.scope x) (r : RelV v u)
    (h : ∀ s', Inv X pins (σ.set i (some v)) H s' → Q () s') (hf : X.fn x = true ∨ X.env.scope.names.lookup x = some .local := by first | exact .inl rfl | exact .inr rfl | assumption) : wpAny M A (storeName X.env x u) Q E s :=
  store_ok2 I hN hi hx r (fun s' I' _ => h s' I') hf
theorem Inv.call' {s' : Shared} {ch : List Addr} (I : Inv X pins σ H s) (ho : s'.os = s.os) (u : Un (frs X.stack) ch H H' s.heap s'.heap) (hok : HOk X.prog X.w H' s'.heap) (hg : AllBare s'.gens)
    (hch : ∀ b ∈ ch, (b ∈ X.ex ∨ X.s₀.heap.objs.size ≤ b) ∧ b ≠ X.env.locals ∧ (∀ x c, X.env.cells.lookup x = some c → c ≠ b) ∧ ∀ p ∈ X.pn ++ pins, p.1 ≠ b) : Inv X pins σ H' s' := by
  obtain ⟨h', g', d', t', o'⟩ := s'
  have e : o' = s.os := ho
  subst e
  exact I.call (g' := g') (t' := t') (d' := d') u hok hg hch
end
abbrev XK := Value → Option Addr → Hp → Prop
abbrev St := List (Option V)
abbrev VK := V → Hp → Prop
abbrev TE := St → Hp → VK → Prop
abbrev TT := St → Hp → (Bool → Hp → Prop) → Prop
abbrev TA := St → Hp → (List V → Hp → Prop) → Prop
structure Ends where
 nx : St → Hp → Prop
 rt : VK
 bk : St → Hp → Prop := fun _ _ => False
 ct : St → Hp → Prop := fun _ _ => False
abbrev TS := Ends → St → Hp → Prop
def EP (X : Cx) (pins : List (Addr × Obj)) (σ : St) (Q : VK) (u : Value) (s' : Shared) : Prop := ∃ v H', Inv X pins σ H' s' ∧ RelV v u ∧ Q v H'
def TP (X : Cx) (pins : List (Addr × Obj)) (σ : St) (Q : Bool → Hp → Prop) (b : Bool) (s' : Shared) : Prop := ∃ H', Inv X pins σ H' s' ∧ Q b H'
def AP (X : Cx) (pins : List (Addr × Obj)) (σ : St) (Q : List V → Hp → Prop) (us : List Value) (s' : Shared) : Prop := ∃ vs H', Inv X pins σ H' s' ∧ Vals vs us ∧ Q vs H'
def SP (X : Cx) (pins : List (Addr × Obj)) (D : Ends) (f : Flow) (s' : Shared) : Prop :=
 match f with
 | .next => ∃ σ' H', Inv X pins σ' H' s' ∧ D.nx σ' H'
 | .brk => ∃ σ' H', Inv X pins σ' H' s' ∧ D.bk σ' H'
 | .cont => ∃ σ' H', Inv X pins σ' H' s' ∧ D.ct σ' H'
 | .ret u => ∃ v σ' H', Inv X pins σ' H' s' ∧ RelV v u ∧ D.rt v H'
def PE (X : Cx) (e : Expr) (t : TE) : Prop :=
 ∀ (pins : List (Addr × Obj)) (s : Shared) (σ : St) (H : Hp) (Q : VK), Inv X pins σ H s → t σ H Q → wpAny (model X.prog X.w) X.A (eval e X.env) (EP X pins σ Q) X.xe s
def PT (X : Cx) (e : Expr) (t : TT) : Prop :=
 ∀ (pins : List (Addr × Obj)) (s : Shared) (σ : St) (H : Hp) (Q : Bool → Hp → Prop), Inv X pins σ H s → t σ H Q → wpAny (model X.prog X.w) X.A (isTrue e X.env (eval e X.env)) (TP X pins σ Q) X.xe s
def PW (X : Cx) (e : Expr) (t : TT) : Prop :=
 ∀ (whole : Sem Value) (pins : List (Addr × Obj)) (s : Shared) (σ : St) (H : Hp) (Q : Bool → Hp → Prop), Inv X pins σ H s → t σ H Q → wpAny (model X.prog X.w) X.A (isTrue e X.env whole) (TP X pins σ Q) X.xe s
theorem PW.pt {X : Cx} {e : Expr} {t : TT} (h : PW X e t) : PT X e t := h _
def PA (X : Cx) (es : List Expr) (t : TA) : Prop :=
 ∀ (pos : Pos) (pins : List (Addr × Obj)) (s : Shared) (σ : St) (H : Hp) (Q : List V → Hp → Prop), Inv X pins σ H s → t σ H Q → wpAny (model X.prog X.w) X.A (spliced (backTo pos (starEach es X.env))) (AP X pins σ Q) X.xe s
def PS (X : Cx) (st : Stmt) (t : TS) : Prop :=
 ∀ (pins : List (Addr × Obj)) (s : Shared) (σ : St) (H : Hp) (D : Ends), Inv X pins σ H s → t D σ H → wpAny (model X.prog X.w) X.A (exec st X.env) (SP X pins D) X.xe s
def PSs (X : Cx) (st : List Stmt) (t : TS) : Prop :=
 ∀ (pins : List (Addr × Obj)) (s : Shared) (σ : St) (H : Hp) (D : Ends), Inv X pins σ H s → t D σ H → wpAny (model X.prog X.w) X.A (execs st X.env) (SP X pins D) X.xe s
theorem thn {α : Type} {t : Sem α} {Q Q' : α → Shared → Prop} {M : Model} {A : Around} {E : Value → Shared → Prop} {s : Shared} (h : wpAny M A t Q E s) (hQ : ∀ a s, Q a s → Q' a s) : wpAny M A t Q' E s := wpAny_mono h hQ fun _ _ x => x
end L2
namespace L2
open PySem PySem.Spec PyProof.Rows
section
variable {X : Cx}
theorem bin {a b : Expr} {ta tb : TE} (ha : PE X a ta) (hb : PE X b tb) {pins : List (Addr × Obj)} {s : Shared} {σ : St} {H : Hp} {R : V → V → Hp → Prop} (I : Inv X pins σ H s) (h : ta σ H fun x H1 => tb σ H1 fun y H2 => R x y H2)
    {α : Type} {Q : α → Shared → Prop} {f : Value → Value → Sem α}
    (hf : ∀ v u s2 x y H2, Inv X pins σ H2 s2 → RelV x v → RelV y u → R x y H2 → wpAny (model X.prog X.w) X.A (f v u) Q X.xe s2) :
    wpAny (model X.prog X.w) X.A (eval a X.env) (fun v s₁ => wpAny (model X.prog X.w) X.A (eval b X.env) (fun u s₂ => wpAny (model X.prog X.w) X.A (f v u) Q X.xe s₂) X.xe s₁) X.xe s := by
  refine thn (ha pins s σ H _ I h) fun v s1 ⟨x, H1, I1, r1, q1⟩ => ?_
  refine thn (hb pins s1 σ H1 _ I1 q1) fun u s2 ⟨y, H2, I2, r2, q2⟩ => ?_
  exact hf v u s2 x y H2 I2 r1 r2 q2
noncomputable def tVar (i : Nat) : TE := fun σ H Q => ∃ v, σ[i]? = some (some v) ∧ Q v H
noncomputable def tC (v : V) : TE := fun _ H Q => Q v H
theorem pe_var {i : Nat} {x : Str} {pos : Pos} (hN : X.N[i]? = some x) (hv : Vis X.env.scope x) (hd : (x == ("__debug__" : Str)) = false := by decide) (hcd : (x == ("__classdict__" : Str)) = false := by decide) : PE X (.Name x pos) (tVar i) := by
 intro pins s σ H Q I h
 obtain ⟨v, e, h⟩ := h
 obtain ⟨m, hn, hl⟩ := I.loc
 obtain ⟨u, r, l⟩ := hl i x v hN e hv
 have fin : EP X pins σ Q u s := ⟨v, H, I, r, h⟩
 rcases l with ⟨hk, hm⟩ | ⟨hk, c, hc, hcell⟩
 · exact wpAny_Name (wpAny_loadName_local I.ok.kind hk hn hm fin) hd
 · rcases hk with hk | hk
   · exact wpAny_Name (wpAny_loadName_cell I.ok.kind hk hc hcell fin) hd
   · exact wpAny_Name (wpAny_loadName_free I.ok.kind hk hc hcell fin hcd) hd
theorem pe_int {i j pos} : PE X (.Constant (.int i) j pos) (tC (.int i)) := fun _ _ _ H _ I h => wpAny_Constant_int ⟨.int i, H, I.tok _, ⟨_, rfl⟩, h⟩
theorem pe_bl {b j pos} : PE X (.Constant (.bool b) j pos) (tC (.bl b)) := fun _ _ _ H _ I h => Constant_bool ⟨.bl b, H, I, rfl, h⟩
theorem pe_non {j pos} : PE X (.Constant .none j pos) (tC .non) := fun _ _ _ H _ I h => Constant_none ⟨.non, H, I, rfl, h⟩
theorem pe_str {x j pos} : PE X (.Constant (.str x) j pos) (tC (.str x)) := fun _ _ _ H _ I h => Calls.Constant_str ⟨.str x, H, I.tok _, ⟨_, rfl⟩, h⟩
def Gl (X : Cx) (x : Str) : Prop := X.env.kindOf x = some .globalImplicit
theorem ld_glob {E : Value → Shared → Prop} {pins : List (Addr × Obj)} {s : Shared} {σ : St} {H : Hp} {x : Str} {u : Value} {pos : Pos} {Q : Value → Shared → Prop} (I : Inv X pins σ H s) (hg : Gl X x) (hm : X.mg x = some u) (h : Q u s)
    (hd : (x == ("__debug__" : Str)) = false := by decide) : wpAny (model X.prog X.w) X.A (eval (.Name x pos) X.env) Q E s :=
  Calls.Name_function_global I.ok.kind hg (Calls.loadGlobal_global (by rw [I.ok.glob]; exact I.mod.glob.keeps I.bk) hm h) hd
theorem ld_blt {E : Value → Shared → Prop} {pins : List (Addr × Obj)} {s : Shared} {σ : St} {H : Hp} {x : Str} {u : Value} {pos : Pos} {Q : Value → Shared → Prop} (I : Inv X pins σ H s) (hg : Gl X x) (hm : X.mg x = none) (hv : bootBuiltins x = some u) (h : Q u s)
    (hn : x ≠ "__name__" := by decide) (hd : (x == ("__debug__" : Str)) = false := by decide) : wpAny (model X.prog X.w) X.A (eval (.Name x pos) X.env) Q E s := by
  obtain ⟨mb, h1, h2⟩ := I.mod.blt
  exact Calls.Name_function_global I.ok.kind hg (Calls.loadGlobal_builtin (by rw [I.ok.glob]; exact I.mod.glob.keeps I.bk) hm (by rw [I.ok.blt]; exact h1.keeps I.bk) ((h2 x hn).trans hv) h) hd
theorem pe_glob {x : Str} {v : V} {u : Value} {pos : Pos} (hg : Gl X x) (hm : X.mg x = some u) (r : RelV v u) (hd : (x == ("__debug__" : Str)) = false := by decide) : PE X (.Name x pos) (tC v) :=
 fun _ _ _ H _ I h => ld_glob I hg hm ⟨v, H, I, r, h⟩ hd
theorem pe_bltn {x : Str} {v : V} {u : Value} {pos : Pos} (hg : Gl X x) (hm : X.mg x = none) (hv : bootBuiltins x = some u) (r : RelV v u) (hn : x ≠ "__name__" := by decide) (hd : (x == ("__debug__" : Str)) = false := by decide) : PE X (.Name x pos) (tC v) :=
 fun _ _ _ H _ I h => ld_blt I hg hm hv ⟨v, H, I, r, h⟩ hn hd
variable {a b : Expr} {ta tb : TE} {pos : Pos}
variable {tA tB' : TT} {rest : List Expr}
noncomputable def tAnd (t u : TT) : TT := fun σ H Q => t σ H fun c H1 => if c = true then u σ H1 Q else Q false H1
noncomputable def tOr (t u : TT) : TT := fun σ H Q => t σ H fun c H1 => if c = true then Q true H1 else u σ H1 Q
noncomputable def tNot (t : TT) : TT := fun σ H Q => t σ H fun c H1 => Q (!c) H1
theorem pw_and1 (ha : PT X a tA) : PW X (.BoolOp .And [a] pos) tA := by
 intro wh pins s σ H Q I h
 refine isTrue_and (thn (ha pins s σ H Q I h) fun c s1 e => ?_)
 cases c with
 | true => exact isTrue_and_nil e
 | false => exact e
theorem pw_or1 (ha : PT X a tA) : PW X (.BoolOp .Or [a] pos) tA := by
 intro wh pins s σ H Q I h
 refine isTrue_or (thn (ha pins s σ H Q I h) fun c s1 e => ?_)
 cases c with
 | false => exact isTrue_or_nil e
 | true => exact e
theorem pw_and (ha : PT X a tA) (hb : PW X (.BoolOp .And (b :: rest) pos) tB') : PW X (.BoolOp .And (a :: b :: rest) pos) (tAnd tA tB') := by
 intro wh pins s σ H Q I h
 refine isTrue_and (thn (ha pins s σ H _ I h) fun c s1 ⟨H1, I1, q1⟩ => ?_)
 cases c with
 | true => exact hb wh pins s1 σ H1 Q I1 q1
 | false => exact ⟨H1, I1, q1⟩
theorem pw_or (ha : PT X a tA) (hb : PW X (.BoolOp .Or (b :: rest) pos) tB') : PW X (.BoolOp .Or (a :: b :: rest) pos) (tOr tA tB') := by
 intro wh pins s σ H Q I h
 refine isTrue_or (thn (ha pins s σ H _ I h) fun c s1 ⟨H1, I1, q1⟩ => ?_)
 cases c with
 | true => exact ⟨H1, I1, q1⟩
 | false => exact hb wh pins s1 σ H1 Q I1 q1
theorem pt_not (ha : PT X a tA) : PT X (.UnaryOp .Not a pos) (tNot tA) := by
 intro pins s σ H Q I h
 exact isTrue_not (ha pins s σ H (fun c H1 => Q (!c) H1) I h)
noncomputable def tNotV (ta : TE) : TE := fun σ H Q => ta σ H fun x H1 => ∃ c, x = .bl c ∧ Q (.bl (!c)) H1
theorem pe_not (ha : PE X a ta) : PE X (.UnaryOp .Not a pos) (tNotV ta) := by
 intro pins s σ H Q I h
 refine UnaryOp_ (thn (ha pins s σ H _ I h) fun v s1 ⟨x, H1, I1, r1, q1⟩ => ?_)
 obtain ⟨c, rfl, q1⟩ := q1
 cases r1
 exact not_of (wpAny_truthy_bool ⟨.bl (!c), H1, I1, rfl, q1⟩)
noncomputable def tIf (t : TT) (ta tb : TE) : TE := fun σ H Q => t σ H fun c H1 => if c = true then ta σ H1 Q else tb σ H1 Q
theorem pe_ifExp {c : Expr} (hc : PT X c tA) (ha : PE X a ta) (hb : PE X b tb) : PE X (.IfExp c a b pos) (tIf tA ta tb) := by
 intro pins s σ H Q I h
 refine wpAny_IfExp (thn (hc pins s σ H _ I h) fun d s1 ⟨H1, I1, q1⟩ => ?_)
 cases d with
 | true => exact ha pins s1 σ H1 Q I1 q1
 | false => exact hb pins s1 σ H1 Q I1 q1
end
end L2
namespace L2
open PySem PySem.Spec PyProof.Rows
def SqL (K : PySem.W.Frag) (H : Hp) (a : Addr) (xs : List V) : Prop :=
 Rd H a (.lst xs) ∨
  ∃ (o : Obj) (its : Array Value) (n : Nat), K.lookup a = some o ∧ o.cls = .type "list" ∧ o.dict = none ∧ o.data = .seq its n ∧ its.size ≤ sizeLine ∧ Vals xs its.toList
def SqT (K : PySem.W.Frag) (H : Hp) (a : Addr) (xs : List V) : Prop :=
 Rd H a (.tup xs) ∨
  ∃ (o : Obj) (its : Array Value) (n : Nat), K.lookup a = some o ∧ o.cls = .type "tuple" ∧ o.data = .seq its n ∧ its.size ≤ sizeLine ∧ Vals xs its.toList
noncomputable def absV : Value → Option V
 | .none => some .non
 | .bool b => some (.bl b)
 | .int i _ => some (.int i)
 | .str x _ => some (.str x)
 | .bytes b _ => some (.byt b)
 | .float b _ => some (.flt b)
 | .ref a => some (.ref a)
 | .type n => some (.ty n)
 | _ => none
theorem RelV.abs {x : V} {u : Value} (r : RelV x u) : absV u = some x := by
 cases x with
 | non => cases r; rfl
 | bl _ => cases r; rfl
 | int _ => obtain ⟨t, rfl⟩ := r; rfl
 | str _ => obtain ⟨t, rfl⟩ := r; rfl
 | byt _ => obtain ⟨t, rfl⟩ := r; rfl
 | flt _ => obtain ⟨t, rfl⟩ := r; rfl
 | ref _ => cases r; rfl
 | ty _ => cases r; rfl
theorem RelV.inj {x y : V} {u : Value} (r : RelV x u) (q : RelV y u) : x = y := Option.some.inj (r.abs.symm.trans q.abs)
theorem Vals.inj : ∀ {xs ys : List V} {us : List Value}, Vals xs us → Vals ys us → xs = ys
 | _, _, _, .nil, .nil => rfl
 | _, _, _, .cons r t, .cons r' t' => by rw [r.inj r', Vals.inj t t']
section
variable {X : Cx} {pins : List (Addr × Obj)} {σ : St} {H : Hp} {s : Shared} {a : Addr} {xs ys : List V}
theorem SqL.of {K : PySem.W.Frag} (h : H a = some (.lst xs)) : SqL K H a xs := .inl (.inl h)
theorem SqT.of {K : PySem.W.Frag} (h : H a = some (.tup xs)) : SqT K H a xs := .inl (.inl h)
theorem Inv.list (I : Inv X pins σ H s) (h : SqL X.K H a xs) : ∃ its : List Value, Vals xs its ∧ PlainL s.heap a its.toArray ∧ xs.length ≤ sizeLine := by
 rcases h with h | ⟨o, its, n, hk, hc, hd, hs, hz, r⟩
 · obtain ⟨z, its, n, r, e⟩ := h.ok I.hok
   exact ⟨its, r, ⟨_, n, e, rfl, rfl, rfl⟩, z⟩
 · refine ⟨its.toList, r, ⟨o, n, I.kIn a o hk, hc, hd, by simpa using hs⟩, ?_⟩
   have e := r.length
   simp only [Array.length_toList] at e
   omega
theorem Inv.tuple (I : Inv X pins σ H s) (h : SqT X.K H a xs) : ∃ its : List Value, Vals xs its ∧ IsTup s.heap a its.toArray ∧ xs.length ≤ sizeLine := by
 rcases h with h | ⟨o, its, n, hk, hc, hs, hz, r⟩
 · obtain ⟨z, its, r, p⟩ := h.ok I.hok
   exact ⟨its, r, p, z⟩
 · refine ⟨its.toList, r, ⟨o, I.kIn a o hk, hc, n, by simpa using hs⟩, ?_⟩
   have e := r.length
   simp only [Array.length_toList] at e
   omega
theorem Inv.list_inj (I : Inv X pins σ H s) (h : SqL X.K H a xs) (h' : SqL X.K H a ys) : xs = ys := by
 obtain ⟨its, r, ⟨o, n, e, _, _, d⟩, _⟩ := I.list h
 obtain ⟨its', r', ⟨o', n', e', _, _, d'⟩, _⟩ := I.list h'
 rw [e] at e'; cases e'
 rw [d] at d'
 injection d' with d1 _
 have : its = its' := by simpa using congrArg Array.toList d1
 subst this
 exact r.inj r'
theorem Inv.tuple_inj (I : Inv X pins σ H s) (h : SqT X.K H a xs) (h' : SqT X.K H a ys) : xs = ys := by
 obtain ⟨its, r, ⟨o, e, _, n, d⟩, _⟩ := I.tuple h
 obtain ⟨its', r', ⟨o', e', _, n', d'⟩, _⟩ := I.tuple h'
 rw [e] at e'; cases e'
 rw [d] at d'
 injection d' with d1 _
 have : its = its' := by simpa using congrArg Array.toList d1
 subst this
 exact r.inj r'
end
abbrev Cx.wish (X : Cx) (E : Value → Shared → Prop) : Cx := { X with xe := E }
abbrev Cx.nox (X : Cx) : Cx := X.wish fun _ _ => False
theorem Cx.Ok.wish {X : Cx} (ok : X.Ok) (E : Value → Shared → Prop) : (X.wish E).Ok :=
 ⟨ok.mod, ok.kind, ok.glob, ok.blt, ok.above, ok.inj, ok.has, ok.cab, ok.hd, ok.frames, ok.stk, ok.exf, ok.bs, ok.bsz, ok.noex, ok.exfs, ok.funs, ok.frf⟩
theorem Cx.Ok.unwish {X : Cx} {E : Value → Shared → Prop} (ok : (X.wish E).Ok) : X.Ok :=
 ⟨ok.mod, ok.kind, ok.glob, ok.blt, ok.above, ok.inj, ok.has, ok.cab, ok.hd, ok.frames, ok.stk, ok.exf, ok.bs, ok.bsz, ok.noex, ok.exfs, ok.funs, ok.frf⟩
section
variable {X : Cx} {pins : List (Addr × Obj)} {σ : St} {H : Hp} {s : Shared} {E : Value → Shared → Prop}
theorem Inv.wish (I : Inv X pins σ H s) (E : Value → Shared → Prop) : Inv (X.wish E) pins σ H s := ⟨I.ok.wish E, I.os, I.bare, I.base, I.loc, I.cell, I.free, I.freeC, I.pin, I.hok, I.len⟩
theorem Inv.unwish (I : Inv (X.wish E) pins σ H s) : Inv X pins σ H s := ⟨I.ok.unwish, I.os, I.bare, I.base, I.loc, I.cell, I.free, I.freeC, I.pin, I.hok, I.len⟩
theorem SP.unwish {D : Ends} {f : Flow} {s' : Shared} (h : SP (X.wish E) pins D f s') : SP X pins D f s' := by
 cases f with
 | next => obtain ⟨σ', H', I, q⟩ := h; exact ⟨σ', H', I.unwish, q⟩
 | brk => obtain ⟨σ', H', I, q⟩ := h; exact ⟨σ', H', I.unwish, q⟩
 | cont => obtain ⟨σ', H', I, q⟩ := h; exact ⟨σ', H', I.unwish, q⟩
 | ret u => obtain ⟨v, σ', H', I, r, q⟩ := h; exact ⟨v, σ', H', I.unwish, r, q⟩
theorem PE.nox {e : Expr} {t : TE} (h : PE X.nox e t) : PE X e t := fun pins s σ H Q I hw =>
 wpAny_mono (h pins s σ H Q (I.wish _) hw) (fun _ _ ⟨v, H', I', r, q⟩ => ⟨v, H', I'.unwish, r, q⟩) fun _ _ z => False.elim z
theorem PT.nox {e : Expr} {t : TT} (h : PT X.nox e t) : PT X e t := fun pins s σ H Q I hw =>
 wpAny_mono (h pins s σ H Q (I.wish _) hw) (fun _ _ ⟨H', I', q⟩ => ⟨H', I'.unwish, q⟩) fun _ _ z => False.elim z
theorem PSs.nox {st : List Stmt} {t : TS} (h : PSs X.nox st t) : PSs X st t := fun pins s σ H D I hw =>
 wpAny_mono (h pins s σ H D (I.wish _) hw) (fun _ _ q => q.unwish) fun _ _ z => False.elim z
end
section
variable {X : Cx} {st : Stmt} {rest : List Stmt} {t u : TS} {e : Expr} {te : TE} {pos : Pos}
noncomputable def tNext : TS := fun D σ H => D.nx σ H
noncomputable def tSeq (t u : TS) : TS := fun D σ H => t { D with nx := u D } σ H
theorem pss_nil : PSs X [] tNext := fun _ _ σ H _ I h => wpAny_execs_nil ⟨σ, H, I, h⟩
theorem pss_cons (h1 : PS X st t) (h2 : PSs X rest u) : PSs X (st :: rest) (tSeq t u) := by
 intro pins s σ H D I h
 refine wpAny_execs_cons (thn (h1 pins s σ H { D with nx := u D } I h) fun f s1 q => ?_)
 cases f with
 | next =>
  obtain ⟨σ', H', I', q⟩ := q
  exact h2 pins s1 σ' H' D I' q
 | ret v => exact q
 | brk => exact q
 | cont => exact q
theorem Inv.quiet {pins : List (Addr × Obj)} {σ : St} {H : Hp} {s : Shared} (I : Inv X pins σ H s) : interactive X.env = false := by simp [interactive, I.ok.kind]
noncomputable def tDrop (te : TE) : TS := fun D σ H => te σ H fun _ H1 => D.nx σ H1
theorem ps_expr (he : PE X e te) (hs : swapsWith e none pos.line X.env = pure false := by rfl) : PS X (.Expr e pos) (tDrop te) := by
 intro pins s σ H D I h
 exact wpAny_Expr_any (thn (he pins s σ H _ I h) fun v s1 ⟨x, H1, I1, r1, q1⟩ => ⟨σ, H1, I1, q1⟩) I.quiet hs
noncomputable def tRet (te : TE) : TS := fun D σ H => te σ H D.rt
theorem ps_ret (he : PE X e te) : PS X (.Return (some e) pos) (tRet te) := by
 intro pins s σ H D I h
 exact wpAny_Return_some (thn (he pins s σ H _ I h) fun v s1 ⟨x, H1, I1, r1, q1⟩ => ⟨x, σ, H1, I1, r1, q1⟩)
noncomputable def tIfS (c : TT) (t u : TS) : TS := fun D σ H => c σ H fun b H1 => if b = true then t D σ H1 else u D σ H1
theorem ps_if {c : Expr} {a b : List Stmt} {tc : TT} (hc : PT X c tc) (ha : PSs X a t) (hb : PSs X b u) : PS X (.If c a b pos) (tIfS tc t u) := by
 intro pins s σ H D I h
 refine wpAny_If (thn (hc pins s σ H _ I h) fun d s1 ⟨H1, I1, q1⟩ => ?_)
 cases d with
 | true => exact ha pins s1 σ H1 D I1 q1
 | false => exact hb pins s1 σ H1 D I1 q1
end
abbrev TG := V → St → Hp → (St → Hp → Prop) → Prop
abbrev TGs := List V → St → Hp → (St → Hp → Prop) → Prop
def PG (X : Cx) (target : Expr) (t : TG) : Prop :=
 ∀ (pins : List (Addr × Obj)) (s : Shared) (σ : St) (H : Hp) (v : V) (u : Value) (Q : St → Hp → Prop), Inv X pins σ H s → RelV v u → t v σ H Q →
  wpAny (model X.prog X.w) X.A (assign target X.env u) (fun _ s' => ∃ σ' H', Inv X pins σ' H' s' ∧ Q σ' H') X.xe s
def PGs (X : Cx) (ts : List Expr) (t : TGs) : Prop :=
 ∀ (pins : List (Addr × Obj)) (s : Shared) (σ : St) (H : Hp) (vs : List V) (us : List Value) (Q : St → Hp → Prop), Inv X pins σ H s → Vals vs us → t vs σ H Q →
  wpAny (model X.prog X.w) X.A (assignInOrder ((assignEach ts X.env).map (·.2)) us) (fun _ s' => ∃ σ' H', Inv X pins σ' H' s' ∧ Q σ' H') X.xe s
section
variable {X : Cx} {pos : Pos}
noncomputable def gName (i : Nat) : TG := fun v σ H Q => Q (σ.set i (some v)) H
theorem pg_name {i : Nat} {x : Str} (hN : X.N.Nodup) (hi : X.N[i]? = some x) (hx : Loc X.env.scope x) (hf : X.fn x = true ∨ X.env.scope.names.lookup x = some .local := by first | exact .inl rfl | exact .inr rfl | assumption) : PG X (.Name x pos) (gName i) := by
 intro pins s σ H v u Q I r h
 exact wpAny_assign_Name (store_ok I hN hi hx r (fun s' I' => ⟨_, H, I', h⟩) hf)
noncomputable def gNil : TGs := fun vs σ H Q => vs = [] ∧ Q σ H
noncomputable def gCons (t : TG) (u : TGs) : TGs := fun vs σ H Q => ∃ v r, vs = v :: r ∧ t v σ H fun σ' H' => u r σ' H' Q
theorem pgs_nil : PGs X [] gNil := by
 intro pins s σ H vs us Q I r h
 obtain ⟨e, h⟩ := h
 subst e
 cases r
 exact assignInOrder_nil ⟨σ, H, I, h⟩
theorem pgs_cons {e : Expr} {es : List Expr} {t : TG} {u : TGs} (h1 : PG X e t) (h2 : PGs X es u)
    (hs : (assignEach (e :: es) X.env).map (·.2) = assign e X.env :: (assignEach es X.env).map (·.2) := by rfl) : PGs X (e :: es) (gCons t u) := by
  intro pins s σ H vs us Q I r h
  obtain ⟨v, vr, e1, h⟩ := h
  subst e1
  cases r with
  | cons r rr =>
    rw [hs]
    refine assignInOrder_cons (thn (h1 pins s σ H _ _ _ I r h) fun _ s1 ⟨σ1, H1, I1, q1⟩ => ?_)
    exact h2 pins s1 σ1 H1 _ _ Q I1 rr q1
noncomputable def gTup (K : PySem.W.Frag) (n : Nat) (t : TGs) : TG := fun v σ H Q => ∃ a xs, v = .ref a ∧ SqT K H a xs ∧ xs.length = n ∧ t xs σ H Q
theorem pg_tup {es : List Expr} {k : Nat} {t : TGs} {n : Nat} (hc : X.calm = true) (h : PGs X es t)
    (hn : (assignEach es X.env).length = n := by rfl) (hst : (assignEach es X.env).findIdx? (·.1) = none := by rfl) : PG X (.Tuple es k pos) (gTup X.K n t) := by
  intro pins s σ H v u Q I r hw
  obtain ⟨a, xs, e1, hq, hl, hw⟩ := hw
  subst e1
  cases r
  obtain ⟨its, rv, ht, hz⟩ := I.tuple hq
  refine assign_Tuple_tuple (I.ok.hd hc) ht (by simp [hn, ← hl, rv.length]) hst fun h' hx => ?_
  have I1 : Inv X pins σ H { s with heap := h' } := I.kept (t' := s.toks) fun b o e => hx b o (Nat.ne_of_lt (Heap.lt_size e)) e
  exact h pins _ σ H xs _ Q I1 (by simpa using rv) hw
noncomputable def tAsg (te : TE) (g : TG) : TS := fun D σ H => te σ H fun x H1 => g x σ H1 D.nx
theorem ps_asg {tg e : Expr} {te : TE} {g : TG} (he : PE X e te) (hg : PG X tg g) (hs : swapsWithSole [tg] e pos.line X.env = pure false := by rfl) (hw : swappedStores [tg] e X.env = pure none := by rfl)
    (h1 : (assignEach [tg] X.env).map (·.2) = [assign tg X.env] := by rfl) : PS X (.Assign [tg] e pos) (tAsg te g) := by
  intro pins s σ H D I h
  refine wpAny_Assign_stores (thn (he pins s σ H _ I h) fun v s1 ⟨x, H1, I1, r1, q1⟩ => ?_) hs hw
  rw [h1]
  exact thn (hg pins s1 σ H1 x v _ I1 r1 q1) fun _ s2 q => q
theorem ps_set {i : Nat} {x : Str} {e : Expr} {te : TE} {pos' : Pos} (hN : X.N.Nodup) (hi : X.N[i]? = some x) (hx : Loc X.env.scope x) (he : PE X e te) (hs : swapsWith e (some (.Name x pos')) pos.line X.env = pure false := by rfl) (hf : X.fn x = true ∨ X.env.scope.names.lookup x = some .local := by first | exact .inl rfl | exact .inr rfl | assumption) :
    PS X (.Assign [.Name x pos'] e pos) (tAsg te (gName i)) := by
  intro pins s σ H D I h
  refine wpAny_Assign_Name (thn (he pins s σ H _ I h) fun v s1 ⟨y, H1, I1, r1, q1⟩ => ?_) hs
  exact store_ok I1 hN hi hx r1 (fun s2 I2 => ⟨_, H1, I2, q1⟩) hf
end
section
variable {X : Cx} {pos : Pos}
noncomputable def tWhile (c : TT) (tb : TS) : TS := fun D σ H => ∃ W : Nat → St → Hp → Prop, (∃ m, W m σ H) ∧ ∀ m σ H, W m σ H →
 c σ H fun b H1 => if b = true then ∃ N : St → Hp → Prop, (∀ σ' H', N σ' H' → ∃ m', m' < m ∧ W m' σ' H') ∧ tb { D with nx := N, ct := N, bk := D.nx } σ H1 else D.nx σ H1
theorem ps_while {c : Expr} {body : List Stmt} {tc : TT} {tb : TS} (hp : PassesOwn (model X.prog X.w) X.A X.env X.xe) (hc : PT X c tc) (hb : PSs X body tb) : PS X (.While c body [] pos) (tWhile tc tb) := by
 intro pins s σ H D I h
 obtain ⟨W, ⟨m0, w0⟩, turn⟩ := h
 refine wpAny_While (codeAny_whileLoop (fun n s' => ∃ σ' H', Inv X pins σ' H' s' ∧ W n σ' H') ?_ m0 ⟨σ, H, I, w0⟩)
 rintro n s1 ⟨σ1, H1, I1, w1⟩
 refine wpAny_passesOwn hp (thn (hc pins s1 σ1 H1 _ I1 (turn n σ1 H1 w1)) fun b s2 ⟨H2, I2, q2⟩ => ?_)
 cases b with
 | true =>
  obtain ⟨N, hN, q2⟩ := q2
  rw [if_pos rfl]
  refine wpAny_passesOwn hp (thn (hb pins s2 σ1 H2 _ I2 q2) fun f s3 q3 => ?_)
  cases f with
  | next =>
   obtain ⟨σ3, H3, I3, n3⟩ := q3
   obtain ⟨m', hm, w3⟩ := hN σ3 H3 n3
   exact ⟨m', hm, σ3, H3, I3, w3⟩
  | cont =>
   obtain ⟨σ3, H3, I3, n3⟩ := q3
   obtain ⟨m', hm, w3⟩ := hN σ3 H3 n3
   exact ⟨m', hm, σ3, H3, I3, w3⟩
  | brk => exact q3
  | ret v => exact q3
 | false =>
  rw [if_neg Bool.false_ne_true]
  exact wpAny_execs_nil ⟨σ1, H2, I2, q2⟩
end
structure It where
 go : Nat → Hp → Prop
 yld : Nat → Hp → V → Hp → Prop
 stop : Nat → Hp → Prop
def FpOk (X : Cx) (pins : List (Addr × Obj)) (H : Hp) (b : Addr) : Prop :=
 H b = none ∧ b ≠ X.env.locals ∧ b ∉ X.fs ∧ (b ∈ X.ex ∨ X.s₀.heap.objs.size ≤ b) ∧ (∀ x c, X.env.cells.lookup x = some c → c ≠ b) ∧ ∀ p ∈ X.pn ++ pins, p.1 ≠ b
theorem Inv.fpOk {X : Cx} {pins : List (Addr × Obj)} {σ : St} {H H' : Hp} {s : Shared} {b : Addr} (I : Inv X pins σ H s) (hb : s.heap.objs.size ≤ b) (hn : H' b = none) : FpOk X pins H' b := by
 refine ⟨hn, Nat.ne_of_gt (Nat.lt_of_lt_of_le I.lt hb), I.nofs hb, .inr (Nat.le_trans I.sz hb), fun x c e z => ?_, fun p hp z => ?_⟩
 · obtain ⟨v, q⟩ := I.cell x c e
   exact absurd (Nat.lt_of_lt_of_le q.lt (by rw [z]; exact hb)) (Nat.lt_irrefl _)
 · exact absurd (Nat.lt_of_lt_of_le (Heap.lt_size (I.pin p hp).1) (by rw [z]; exact hb)) (Nat.lt_irrefl _)
structure Turn (P : Program) (w : World) (K : PySem.W.Frag) (tg : Expr) (J : It) (fp : List Addr) (it : Addr) (tn : Nat → Heap → Prop) : Prop where
 mem : it ∈ fp
 obj : ∀ i h, tn i h → ∀ b ∈ fp, ∃ o, h.get? b = some o ∧ ∀ v, o.data ≠ .cell v
 keep : ∀ i h h', tn i h → (∀ b ∈ fp, ∀ o, h.get? b = some o → h'.get? b = some o) → tn i h'
 item : ∀ (X : Cx), X.prog = P → X.w = w → X.K = K → X.calm = true → ∀ (i : Nat) (pins : List (Addr × Obj)) (s : Shared) (σ : St) (H : Hp) (E : Value → Shared → Prop), Inv X pins σ H s → (∀ b ∈ fp, FpOk X pins H b) → tn i s.heap → J.go i H →
  wpAny (model P w) X.A (pyNext (.ref it)) (fun r s1 => ∃ u, r = some u ∧
   wpAny (model P w) X.A (letOwnedTupleGo tg (.ref it) u) (fun _ s2 => ∃ x H', Inv X pins σ H' s2 ∧ RelV x u ∧ J.yld i H x H' ∧ tn (i + 1) s2.heap ∧ ∀ b ∈ fp, H' b = none) E s1) E s
 done : ∀ (X : Cx), X.prog = P → X.w = w → X.K = K → X.calm = true → ∀ (i : Nat) (pins : List (Addr × Obj)) (s : Shared) (σ : St) (H : Hp) (E : Value → Shared → Prop), Inv X pins σ H s → (∀ b ∈ fp, FpOk X pins H b) → tn i s.heap → J.stop i H →
  wpAny (model P w) X.A (pyNext (.ref it)) (fun r s1 => r = none ∧ Inv X pins σ H s1) E s
 self : ∀ (A : Around) (i : Nat) (s : Shared) (Q : Value → Shared → Prop) (E : Value → Shared → Prop), tn i s.heap → Q (.ref it) s → wpAny (model P w) A (pyIter (.ref it)) Q E s
abbrev TI := St → Hp → (It → Hp → Prop) → Prop
def PIE (X : Cx) (pins : List (Addr × Obj)) (σ : St) (tg : Expr) (R : It → Hp → Prop) (itv : Value) (s2 : Shared) : Prop :=
 ∃ (it : Addr) (fp : List Addr) (tn : Nat → Heap → Prop) (J : It) (H' : Hp), itv = .ref it ∧ Inv X pins σ H' s2 ∧ Turn X.prog X.w X.K tg J fp it tn ∧ tn 0 s2.heap ∧ (∀ b ∈ fp, FpOk X pins H' b) ∧ R J H'
def PI (X : Cx) (tg iter : Expr) (wi : TI) : Prop :=
 ∀ (pins : List (Addr × Obj)) (s : Shared) (σ : St) (H : Hp) (R : It → Hp → Prop), Inv X pins σ H s → wi σ H R →
  wpAny (model X.prog X.w) X.A (eval iter X.env) (fun v s1 => wpAny (model X.prog X.w) X.A (pyIter v) (PIE X pins σ tg R) X.xe s1) X.xe s
theorem go_of {M : Model} {A : Around} {E : Value → Shared → Prop} {s : Shared} {tg : Expr} {it : Addr} {u : Value} {o : Obj} {n : String} {vs : Array Value} {Q : Unit → Shared → Prop} (ho : s.heap.get? it = some o) (hc : o.cls = .type n) (hd : o.data = .fields vs)
    (hn : ["enumerate", "zip", "dict_itemiterator", "dict_reverseitemiterator", "odict_iterator", "itertools.zip_longest", "itertools.pairwise"].contains n = false) (hQ : Q () s) : wpAny M A (letOwnedTupleGo tg (.ref it) u) Q E s := by
  unfold letOwnedTupleGo
  cases tg <;> first
    | exact wpAny_pure hQ
    | (cases u <;> first
        | exact wpAny_pure hQ
        | (refine wpAny_bind (wpAny_load ho ?_)
           rw [hc, hd]
           show wpAny M A (if (["enumerate", "zip", "dict_itemiterator", "dict_reverseitemiterator", "odict_iterator", "itertools.zip_longest", "itertools.pairwise"].contains n && vs[0]? == some (rawInt _)) = true then _ else _) Q E s
           rw [if_neg (by intro h; rw [hn, Bool.false_and] at h; cases h)]
           exact wpAny_pure hQ))
noncomputable def Itl (K : PySem.W.Frag) (a : Addr) : It :=
 ⟨fun i H => ∃ xs x, SqL K H a xs ∧ xs[i]? = some x, fun i H x H' => H' = H ∧ ∀ xs, SqL K H a xs → xs[i]? = some x, fun i H => ∃ xs, SqL K H a xs ∧ xs.length ≤ i⟩
noncomputable def Itt (K : PySem.W.Frag) (a : Addr) : It :=
 ⟨fun i H => ∃ xs x, SqT K H a xs ∧ xs[i]? = some x, fun i H x H' => H' = H ∧ ∀ xs, SqT K H a xs → xs[i]? = some x, fun i H => ∃ xs, SqT K H a xs ∧ xs.length ≤ i⟩
noncomputable def Itr (lo : Int) (n : Nat) : It := ⟨fun i _ => i < n, fun i H x H' => H' = H ∧ x = .int (lo + i), fun i _ => n ≤ i⟩
theorem turn_list {P : Program} {w : World} {K : PySem.W.Frag} {tg : Expr} (a it : Addr) : Turn P w K tg (Itl K a) [it] it (fun i h => h.IsListIter it a i) where
 mem := by simp
 obj := fun i h st b hb => by
  have e : b = it := by simpa using hb
  subst e
  obtain ⟨o, e, c, d⟩ := st
  exact ⟨o, e, fun v z => by rw [d] at z; cases z⟩
 keep := fun i h h' st k => st.at fun o e => k it (by simp) o e
 item := by
  intro X hP hw hK hc i pins s σ H E I hf st hg
  subst hP hw hK
  obtain ⟨xs, x, hq, hx⟩ := hg
  obtain ⟨its, rv, p, hz⟩ := I.list hq
  obtain ⟨u, hu, ru⟩ := rv.get hx
  obtain ⟨f0, f1, f2, f3, f4, f5⟩ := hf it (by simp)
  refine wpAny_pyNext_list_item st p.isList (x := u) (by simpa using hu) fun h' st' sb => ?_
  have I1 : Inv X pins σ H { s with heap := h' } := I.turned (t' := s.toks) (fun b o hb e => (sb.2 b hb).trans e) f0 f1 f3 f4 f5
  obtain ⟨o, e, c, d⟩ := id st'
  exact ⟨u, rfl, go_of (s := { s with heap := h' }) e c d (by decide) ⟨x, H, I1, ru, ⟨rfl, fun ys hy => by rw [I.list_inj hy hq]; exact hx⟩, st', fun b hb => (hf b hb).1⟩⟩
 done := by
  intro X hP hw hK hc i pins s σ H E I hf st hg
  subst hP hw hK
  obtain ⟨xs, hq, hx⟩ := hg
  obtain ⟨its, rv, p, hz⟩ := I.list hq
  obtain ⟨f0, f1, f2, f3, f4, f5⟩ := hf it (by simp)
  have hl := rv.length
  exact wpAny_pyNext_list_end (I.ok.hd hc) st p.isList (by simp; omega) fun h' eb => ⟨rfl, I.turned (t' := s.toks) (fun b o hb e => eb b o hb e) f0 f1 f3 f4 f5⟩
 self := fun _ _ _ _ _ st h => wpAny_pyIter_listiter st h
theorem turn_tuple {P : Program} {w : World} {K : PySem.W.Frag} {tg : Expr} (a it : Addr) : Turn P w K tg (Itt K a) [it] it (fun i h => h.IsTupleIter it a i) where
 mem := by simp
 obj := fun i h st b hb => by
  have e : b = it := by simpa using hb
  subst e
  obtain ⟨o, e, c, d⟩ := st
  exact ⟨o, e, fun v z => by rw [d] at z; cases z⟩
 keep := fun i h h' st k => st.at fun o e => k it (by simp) o e
 item := by
  intro X hP hw hK hc i pins s σ H E I hf st hg
  subst hP hw hK
  obtain ⟨xs, x, hq, hx⟩ := hg
  obtain ⟨its, rv, p, hz⟩ := I.tuple hq
  obtain ⟨u, hu, ru⟩ := rv.get hx
  obtain ⟨f0, f1, f2, f3, f4, f5⟩ := hf it (by simp)
  refine wpAny_pyNext_tuple_item st (show s.heap.IsTuple a its.toArray from p) (x := u) (by simpa using hu) fun h' st' sb => ?_
  have I1 : Inv X pins σ H { s with heap := h' } := I.turned (t' := s.toks) (fun b o hb e => (sb.2 b hb).trans e) f0 f1 f3 f4 f5
  obtain ⟨o, e, c, d⟩ := id st'
  exact ⟨u, rfl, go_of (s := { s with heap := h' }) e c d (by decide) ⟨x, H, I1, ru, ⟨rfl, fun ys hy => by rw [I.tuple_inj hy hq]; exact hx⟩, st', fun b hb => (hf b hb).1⟩⟩
 done := by
  intro X hP hw hK hc i pins s σ H E I hf st hg
  subst hP hw hK
  obtain ⟨xs, hq, hx⟩ := hg
  obtain ⟨its, rv, p, hz⟩ := I.tuple hq
  obtain ⟨f0, f1, f2, f3, f4, f5⟩ := hf it (by simp)
  have hl := rv.length
  exact wpAny_pyNext_tuple_end (I.ok.hd hc) st (show s.heap.IsTuple a its.toArray from p) (by simp; omega) fun h' eb => ⟨rfl, I.turned (t' := s.toks) (fun b o hb e => eb b o hb e) f0 f1 f3 f4 f5⟩
 self := fun _ _ _ _ _ st h => wpAny_pyIter_tupleiter st h
theorem turn_range {P : Program} {w : World} {K : PySem.W.Frag} {tg : Expr} (it : Addr) (lo : Int) (n : Nat) : Turn P w K tg (Itr lo n) [it] it (fun i h => IsRangeIter h it (lo + (i : Nat) * 1) ((n : Int) - (i : Nat)) 1) where
 mem := by simp
 obj := fun i h st b hb => by
  have e : b = it := by simpa using hb
  subst e
  exact ⟨_, st, fun v z => by
   have z' : Data.fields _ = Data.cell v := z
   cases z'⟩
 keep := fun i h h' st k => k it (by simp) _ st
 item := by
  intro X hP hw hK hc i pins s σ H E I hf st hg
  subst hP hw hK
  obtain ⟨f0, f1, f2, f3, f4, f5⟩ := hf it (by simp)
  have W := Walks.range (prog := X.prog) (w := X.w) (I.ok.hd hc) it lo 1 n
  refine W.item i s _ _ hg st fun v h' tk hv st' kk => ?_
  obtain ⟨t, rfl⟩ := hv
  have I1 : Inv X pins σ H { s with heap := h', toks := tk } := I.turned (fun b o hb e => kk b o (by simpa using hb) e) f0 f1 f3 f4 f5
  refine ⟨_, rfl, go_of (s := { s with heap := h', toks := tk }) (n := "range_iterator") st' rfl rfl (by decide) ⟨.int (lo + i), H, I1, ⟨t, ?_⟩, ⟨rfl, rfl⟩, st', fun b hb => (hf b hb).1⟩⟩
  rw [Int.mul_one]
 done := by
  intro X hP hw hK hc i pins s σ H E I hf st hg
  subst hP hw hK
  obtain ⟨f0, f1, f2, f3, f4, f5⟩ := hf it (by simp)
  exact wpAny_pyNext_range_end (I.ok.hd hc) st (by have : n ≤ i := hg; omega) fun h' eb => ⟨rfl, I.turned (t' := s.toks) (fun b o hb e => eb b o hb e) f0 f1 f3 f4 f5⟩
 self := fun _ _ _ _ _ st h => wpAny_pyIter_rangeiter st h
end L2
namespace L2
open PySem PySem.Spec PyProof.Rows
section
variable {X : Cx} {tg : Expr}
noncomputable def iList (K : PySem.W.Frag) (tl : TE) : TI := fun σ H R => tl σ H fun x H1 => ∃ a, x = .ref a ∧ (∃ xs, SqL K H1 a xs) ∧ R (Itl K a) H1
noncomputable def iTup (K : PySem.W.Frag) (tl : TE) : TI := fun σ H R => tl σ H fun x H1 => ∃ a, x = .ref a ∧ (∃ xs, SqT K H1 a xs) ∧ R (Itt K a) H1
theorem pi_list {l : Expr} {tl : TE} (hl : PE X l tl) : PI X tg l (iList X.K tl) := by
 intro pins s σ H R I h
 refine thn (hl pins s σ H _ I h) fun v s1 ⟨x, H1, I1, r1, q1⟩ => ?_
 obtain ⟨a, e, ⟨xs, hq⟩, q⟩ := q1
 subst e
 cases r1
 obtain ⟨its, rv, p, hz⟩ := I1.list hq
 refine wpAny_pyIter_list p.isList ?_
 refine ⟨s1.heap.objs.size, [s1.heap.objs.size], _, _, H1, rfl, I1.kept (t' := s1.toks) fun b o e => Heap.get?_push_of_some _ e, turn_list a _, ⟨_, Heap.get?_push_size _ rfl, rfl, rfl⟩, fun b hb => ?_, q⟩
 have e : b = s1.heap.objs.size := by simpa using hb
 subst e
 exact I1.fpOk (Nat.le_refl _) (I1.hok.fresh (Nat.le_refl _))
theorem pi_tup {l : Expr} {tl : TE} (hl : PE X l tl) : PI X tg l (iTup X.K tl) := by
 intro pins s σ H R I h
 refine thn (hl pins s σ H _ I h) fun v s1 ⟨x, H1, I1, r1, q1⟩ => ?_
 obtain ⟨a, e, ⟨xs, hq⟩, q⟩ := q1
 subst e
 cases r1
 obtain ⟨its, rv, p, hz⟩ := I1.tuple hq
 refine wpAny_pyIter_tuple (show s1.heap.IsTuple a its.toArray from p) ?_
 refine ⟨s1.heap.objs.size, [s1.heap.objs.size], _, _, H1, rfl, I1.kept (t' := s1.toks) fun b o e => Heap.get?_push_of_some _ e, turn_tuple a _, ⟨_, Heap.get?_push_size _ rfl, rfl, rfl⟩, fun b hb => ?_, q⟩
 have e : b = s1.heap.objs.size := by simpa using hb
 subst e
 exact I1.fpOk (Nat.le_refl _) (I1.hok.fresh (Nat.le_refl _))
theorem range_it {pins : List (Addr × Obj)} {σ : St} {H : Hp} {s : Shared} {R : It → Hp → Prop} {E : Value → Shared → Prop} {lo hi : Int} {t u v : Tok} {tk : Nat} (I : Inv X pins σ H s) (h1 : -(2 ^ 62) ≤ lo) (h2 : lo < 2 ^ 62) (h3 : -(2 ^ 62) ≤ hi) (h4 : hi < 2 ^ 62)
    (q : R (Itr lo (hi - lo).toNat) H) : wpAny (model X.prog X.w) X.A (pyIter (.ref s.heap.objs.size)) (PIE X pins σ tg R) E { s with heap := s.heap.push { cls := .type "range", data := .fields #[.int lo t, .int hi u, .int 1 v] }, toks := tk } := by
  refine wpAny_pyIter_range (IsRange.new ..) (small_one h1 h2 h3 h4) ?_
  have I1 : Inv X pins σ H { s with heap := s.heap.push { cls := .type "range", data := .fields #[.int lo t, .int hi u, .int 1 v] }, toks := tk } := I.kept fun b o e => Heap.get?_push_of_some _ e
  refine ⟨(s.heap.push { cls := .type "range", data := .fields #[.int lo t, .int hi u, .int 1 v] }).objs.size, [(s.heap.push { cls := .type "range", data := .fields #[.int lo t, .int hi u, .int 1 v] }).objs.size], _, _, H, rfl,
    I1.kept (t' := tk) fun b o e => Heap.get?_push_of_some _ e, turn_range _ lo (hi - lo).toNat, ?_, fun b hb => ?_, q⟩
  · have e1 : lo + ((0 : Nat) : Int) * 1 = lo := by simp
    have e2 : (((hi - lo).toNat : Nat) : Int) - ((0 : Nat) : Int) = Builtin.Range.rangeSize lo hi 1 := by rw [rangeSize_one]; split <;> omega
    show IsRangeIter _ _ (lo + ((0 : Nat) : Int) * 1) ((((hi - lo).toNat : Nat) : Int) - ((0 : Nat) : Int)) 1
    rw [e1, e2]
    exact Heap.get?_push_size _ rfl
  · have e : b = (s.heap.push { cls := .type "range", data := .fields #[.int lo t, .int hi u, .int 1 v] }).objs.size := by simpa using hb
    subst e
    exact I1.fpOk (Nat.le_refl _) (I1.hok.fresh (Nat.le_refl _))
noncomputable def iRng1 (ta : TA) : TI := fun σ H R => ta σ H fun vs H1 => ∃ j : Int, vs = [.int j] ∧ -(2 ^ 62) ≤ j ∧ j < 2 ^ 62 ∧ R (Itr 0 j.toNat) H1
theorem pi_range1 {a : Expr} {ta : TA} {p pos : Pos} (hg : Gl X "range") (hm : X.mg "range" = none) (ha : PA X [a] ta) (hs : starEach [a] X.env = [(false, eval a X.env)] := by rfl) : PI X tg (.Call (.Name "range" p) [a] [] pos) (iRng1 ta) := by
 intro pins s σ H R I h
 refine Call_ (ld_blt I hg hm boot_range (PyProof.Rows.callWith_type1 (thn (ha pos pins s σ H _ I h) fun us s1 ⟨vs, H1, I1, r1, q1⟩ => ?_) hs rfl))
 obtain ⟨j, e, q1, q2, q⟩ := q1
 subst e
 cases r1 with
 | cons r rr =>
  cases rr
  obtain ⟨t, rfl⟩ := r
  exact call_range_1 (range_it I1 (by omega) (by omega) q1 q2 (by simpa using q))
noncomputable def tFor (wi : TI) (g : TG) (tb : TS) : TS := fun D σ H => wi σ H fun J H1 => ∃ W : Nat → Nat → St → Hp → Prop, (∃ m, W 0 m σ H1) ∧ ∀ i m σ H, W i m σ H →
 (J.stop i H ∧ D.nx σ H) ∨ (J.go i H ∧ ∃ N : St → Hp → Prop, (∀ σ' H', N σ' H' → ∃ m', m' < m ∧ W (i + 1) m' σ' H') ∧ ∀ x H', J.yld i H x H' → g x σ H' fun σ2 H2 => tb { D with nx := N, ct := N, bk := D.nx } σ2 H2)
noncomputable def pinsAt (fp : List Addr) (h : Heap) : List (Addr × Obj) := fp.filterMap fun b => (h.get? b).map fun o => (b, o)
theorem mem_pinsAt {fp : List Addr} {h : Heap} {b : Addr} {o : Obj} (hb : b ∈ fp) (e : h.get? b = some o) : (b, o) ∈ pinsAt fp h := List.mem_filterMap.mpr ⟨b, hb, by rw [e]; rfl⟩
theorem of_pinsAt {fp : List Addr} {h : Heap} {p : Addr × Obj} (hp : p ∈ pinsAt fp h) : p.1 ∈ fp ∧ h.get? p.1 = some p.2 := by
 obtain ⟨b, hb, e⟩ := List.mem_filterMap.mp hp
 cases q : h.get? b with
 | none => rw [q] at e; cases e
 | some o =>
  rw [q] at e
  have e' : (b, o) = p := Option.some.inj e
  subst e'
  exact ⟨hb, q⟩
theorem Inv.pinned {pins : List (Addr × Obj)} {σ : St} {H : Hp} {s : Shared} {fp : List Addr} (I : Inv X pins σ H s) (hf : ∀ b ∈ fp, FpOk X pins H b) (ho : ∀ b ∈ fp, ∃ o, s.heap.get? b = some o ∧ ∀ v, o.data ≠ .cell v) : Inv X (pins ++ pinsAt fp s.heap) σ H s :=
 I.pins_of fun p hp => (List.mem_append.mp hp).elim (fun z => I.pin p (List.mem_append_right _ z)) fun z => by
  obtain ⟨hb, e⟩ := of_pinsAt z
  obtain ⟨f0, f1, f2, _⟩ := hf p.1 hb
  obtain ⟨o, e', d⟩ := ho p.1 hb
  rw [e] at e'; cases e'
  exact ⟨e, f0, f1, f2, d⟩
theorem Inv.unpinned {pins pl : List (Addr × Obj)} {σ : St} {H : Hp} {s : Shared} (I : Inv X (pins ++ pl) σ H s) : Inv X pins σ H s := I.pins_of fun p hp => I.pin p (List.mem_append_right _ (List.mem_append_left _ hp))
theorem ps_for {iter : Expr} {body : List Stmt} {wi : TI} {g : TG} {tb : TS} {pos : Pos} (hp : PassesOwn (model X.prog X.w) X.A X.env X.xe) (hc : X.calm = true) (hi : PI X tg iter wi) (hg : PG X tg g) (hb : PSs X body tb)
    (hs : ∀ x, foldedSetIterable iter X.env x = pure x := by intro _; rfl) : PS X (.For tg iter body [] pos) (tFor wi g tb) := by
  intro pins s σ H D I h
  refine wpAny_For (thn (hi pins s σ H _ I h) fun v s1 h1 => thn h1 fun itv s2 h2 => ?_) hs
  obtain ⟨it, fp, tn, J, H2, e, I2, T, st2, f2, W, ⟨m0, w0⟩, turn⟩ := h2
  subst e
  have stat : ∀ {H' : Hp}, (∀ b ∈ fp, H' b = none) → ∀ b ∈ fp, FpOk X pins H' b := fun hn b hb => ⟨hn b hb, (f2 b hb).2⟩
  refine codeAny_forLoop_any (fun n s' => ∃ i σ' H', Inv X pins σ' H' s' ∧ tn i s'.heap ∧ (∀ b ∈ fp, H' b = none) ∧ W i n σ' H') ?_ m0 ⟨0, σ, H2, I2, st2, fun b hb => (f2 b hb).1, w0⟩
  rintro n s3 ⟨i, σ3, H3, I3, st3, fr3, w3⟩
  rcases turn i n σ3 H3 w3 with ⟨stop, qn⟩ | ⟨go, N, hN, step⟩
  · refine wpAny_passesOwn hp (thn (T.done X rfl rfl rfl hc i pins s3 σ3 H3 X.xe I3 (stat fr3) st3 stop) fun r s4 ⟨hr, I4⟩ => ?_)
    subst hr
    exact wpAny_execs_nil ⟨σ3, H3, I4, qn⟩
  · refine wpAny_passesOwn hp (thn (T.item X rfl rfl rfl hc i pins s3 σ3 H3 X.xe I3 (stat fr3) st3 go) fun r s4 ⟨u, hr, h4⟩ => ?_)
    subst hr
    refine wpAny_passesOwn hp (thn h4 fun _ s5 ⟨x, H5, I5, r5, y5, st5, fr5⟩ => ?_)
    have I5' := I5.pinned (stat fr5) (T.obj _ _ st5)
    refine wpAny_passesOwn hp (thn (hg _ s5 σ3 H5 x u _ I5' r5 (step x H5 y5)) fun _ s6 ⟨σ6, H6, I6, q6⟩ => ?_)
    refine wpAny_passesOwn hp (thn (hb _ s6 σ6 H6 _ I6 q6) fun f s7 q7 => ?_)
    have again : ∀ {σ7 : St} {H7 : Hp}, Inv X (pins ++ pinsAt fp s5.heap) σ7 H7 s7 → N σ7 H7 → ∃ m, m < n ∧ ∃ i σ' H', Inv X pins σ' H' s7 ∧ tn i s7.heap ∧ (∀ b ∈ fp, H' b = none) ∧ W i m σ' H' := fun {σ7 H7} I7 n7 => by
      obtain ⟨m', hm, w7⟩ := hN σ7 H7 n7
      refine ⟨m', hm, i + 1, σ7, H7, I7.unpinned, T.keep _ _ _ st5 fun b hb o e => (I7.pin (b, o) (List.mem_append_right _ (List.mem_append_right _ (mem_pinsAt hb e)))).1, fun b hb => ?_, w7⟩
      obtain ⟨o, e, d⟩ := T.obj _ _ st5 b hb
      exact (I7.pin (b, o) (List.mem_append_right _ (List.mem_append_right _ (mem_pinsAt hb e)))).2.1
    cases f with
    | next => obtain ⟨σ7, H7, I7, n7⟩ := q7; exact again I7 n7
    | cont => obtain ⟨σ7, H7, I7, n7⟩ := q7; exact again I7 n7
    | brk => obtain ⟨σ7, H7, I7, q7⟩ := q7; exact ⟨σ7, H7, I7.unpinned, q7⟩
    | ret v => obtain ⟨x7, σ7, H7, I7, r7, q7⟩ := q7; exact ⟨x7, σ7, H7, I7.unpinned, r7, q7⟩
end
end L2
namespace L2
open PySem PySem.Spec PyProof.Rows
abbrev R2 := V → V → Hp → VK → Prop
def OpR (X : Cx) (f : Value → Value → Sem Value) (r : R2) : Prop :=
 ∀ (pins : List (Addr × Obj)) (s : Shared) (σ : St) (H : Hp) (x y : V) (v u : Value) (Q : VK), Inv X pins σ H s → RelV x v → RelV y u → r x y H Q →
  wpAny (model X.prog X.w) X.A (f v u) (EP X pins σ Q) X.xe s
def CallR (X : Cx) (f : Value) (r : List V → Hp → VK → Prop) : Prop :=
 ∀ (pins : List (Addr × Obj)) (s : Shared) (σ : St) (H : Hp) (xs : List V) (us : List Value) (Q : VK), Inv X pins σ H s → Vals xs us → r xs H Q →
  wpAny (model X.prog X.w) X.A (call f us) (EP X pins σ Q) X.xe s
def TruR (X : Cx) (r : V → Hp → (Bool → Hp → Prop) → Prop) : Prop :=
 ∀ (pins : List (Addr × Obj)) (s : Shared) (σ : St) (H : Hp) (x : V) (v : Value) (Q : Bool → Hp → Prop), Inv X pins σ H s → RelV x v → r x H Q →
  wpAny (model X.prog X.w) X.A (truthy v) (TP X pins σ Q) X.xe s
noncomputable def tOp (r : R2) (ta tb : TE) : TE := fun σ H Q => ta σ H fun x H1 => tb σ H1 fun y H2 => r x y H2 Q
def rI (C : Int → Int → Prop) (g : Int → Int → V) : R2 := fun x y H Q => ∃ i j, x = .int i ∧ y = .int j ∧ C i j ∧ Q (g i j) H
noncomputable def rI0 (g : Int → Int → V) : R2 := fun x y H Q => ∃ i j, x = .int i ∧ y = .int j ∧ Q (g i j) H
section
variable {X : Cx} {a b c : Expr} {ta tb tc : TE} {pos : Pos}
theorem binT (ha : PE X a ta) (hb : PE X b tb) {pins : List (Addr × Obj)} {s : Shared} {σ : St} {H : Hp} {R : V → V → Hp → Prop} (I : Inv X pins σ H s)
    (h : ta σ H fun x H1 => tb σ H1 fun y H2 => R x y H2) {Q : Value → Shared → Prop} {f : Value → Value → Sem Value}
    (hf : ∀ v u s2 x y H2, Inv X pins σ H2 s2 → RelV x v → RelV y u → R x y H2 → wpAny (model X.prog X.w) X.A (f v u) Q X.xe s2) :
    wpAny (model X.prog X.w) X.A (eval a X.env) (fun v s₁ => wpAny (model X.prog X.w) X.A (eval b X.env) (fun u s₂ => wpAny (model X.prog X.w) X.A (f v u) Q X.xe s₂) X.xe s₁) X.xe s := by
  refine thn (ha pins s σ H _ I h) fun v s1 ⟨x, H1, I1, r1, q1⟩ => ?_
  refine thn (hb pins s1 σ H1 _ I1 q1) fun u s2 ⟨y, H2, I2, r2, q2⟩ => ?_
  exact hf v u s2 x y H2 I2 r1 r2 q2
theorem pe_op {op : Operator} {r : R2} (ho : OpR X (binaryOp op) r) (ha : PE X a ta) (hb : PE X b tb) : PE X (.BinOp a op b pos) (tOp r ta tb) := by
 intro pins s σ H Q I h
 exact wpAny_BinOp (binT ha hb I h fun v u s2 x y H2 I2 rx ry q => ho pins s2 σ H2 x y v u Q I2 rx ry q)
theorem opI {f : Value → Value → Sem Value} {C : Int → Int → Prop} {g : Int → Int → Int}
    (rule : ∀ (i j : Int) (t u : Tok) (s : Shared) (Q : Value → Shared → Prop) (E : Value → Shared → Prop), C i j → Q (.int (g i j) s.toks) { s with toks := s.toks + 1 } → wpAny (model X.prog X.w) X.A (f (.int i t) (.int j u)) Q E s) :
    OpR X f (rI C fun i j => .int (g i j)) := by
  intro pins s σ H x y v u Q I rx ry h
  obtain ⟨i, j, rfl, rfl, hc, q⟩ := h
  obtain ⟨t, rfl⟩ := rx
  obtain ⟨t', rfl⟩ := ry
  exact rule i j t t' s _ _ hc ⟨.int (g i j), H, I.tok _, ⟨_, rfl⟩, q⟩
theorem opI0 {f : Value → Value → Sem Value} {g : Int → Int → Int}
    (rule : ∀ (i j : Int) (t u : Tok) (s : Shared) (Q : Value → Shared → Prop) (E : Value → Shared → Prop), Q (.int (g i j) s.toks) { s with toks := s.toks + 1 } → wpAny (model X.prog X.w) X.A (f (.int i t) (.int j u)) Q E s) :
    OpR X f (rI0 fun i j => .int (g i j)) := by
  intro pins s σ H x y v u Q I rx ry h
  obtain ⟨i, j, rfl, rfl, q⟩ := h
  obtain ⟨t, rfl⟩ := rx
  obtain ⟨t', rfl⟩ := ry
  exact rule i j t t' s _ _ ⟨.int (g i j), H, I.tok _, ⟨_, rfl⟩, q⟩
theorem opB0 {f : Value → Value → Sem Value} {g : Int → Int → Bool}
    (rule : ∀ (i j : Int) (t u : Tok) (s : Shared) (Q : Value → Shared → Prop) (E : Value → Shared → Prop), Q (.bool (g i j)) s → wpAny (model X.prog X.w) X.A (f (.int i t) (.int j u)) Q E s) :
    OpR X f (rI0 fun i j => .bl (g i j)) := by
  intro pins s σ H x y v u Q I rx ry h
  obtain ⟨i, j, rfl, rfl, q⟩ := h
  obtain ⟨t, rfl⟩ := rx
  obtain ⟨t', rfl⟩ := ry
  exact rule i j t t' s _ _ ⟨.bl (g i j), H, I, rfl, q⟩
def CPow (i j : Int) : Prop := 0 ≤ j ∧ j ≤ 1000000 ∧ i.natAbs < 2 ^ 64
def CMul (i j : Int) : Prop := (-(2 ^ 64) < i ∧ i < 2 ^ 64) ∨ (-(2 ^ 64) < j ∧ j < 2 ^ 64)
theorem CMul.ok {i j : Int} (h : CMul i j) : IntMulOk i j := by
 rcases h with ⟨h1, h2⟩ | ⟨h1, h2⟩
 · exact .of_left (intBits_le_64 h1 h2)
 · exact .of_right (intBits_le_64 h1 h2)
theorem op_add : OpR X (binaryOp .Add) (rI0 fun i j => .int (i + j)) := opI0 fun _ _ _ _ _ _ _ q => add_int q
theorem op_sub : OpR X (binaryOp .Sub) (rI0 fun i j => .int (i - j)) := opI0 fun _ _ _ _ _ _ _ q => sub_int q
theorem op_modN : OpR X (binaryOp .Mod) (rI (fun _ j => j ≠ 0) fun i j => .int (i.fmod j)) := opI fun _ _ _ _ _ _ _ hc q => mod_int' hc q
theorem op_pow : OpR X (binaryOp .Pow) (rI CPow fun i j => .int (i ^ j.toNat)) := opI fun _ _ _ _ _ _ _ hc q => pow_int_small hc.1 hc.2.1 hc.2.2 q
end
section
variable {X : Cx} {a b c : Expr} {ta tb tc : TE} {pos : Pos}
theorem fin_bl {pins : List (Addr × Obj)} {σ : St} {H : Hp} {s : Shared} {Q : VK} {k k' : Bool} (I : Inv X pins σ H s) (q : Q (.bl k) H) (e : k = k') : EP X pins σ Q (.bool k') s := by
 subst e
 exact ⟨.bl k, H, I, rfl, q⟩
theorem op_lt : OpR X (compareOp .Lt) (rI0 fun i j => .bl (decide (i < j))) := opB0 fun _ _ _ _ _ _ _ q => lt_int q
theorem op_gt : OpR X (compareOp .Gt) (rI0 fun i j => .bl (decide (j < i))) := opB0 fun _ _ _ _ _ _ _ q => gt_int q
theorem op_in_str : OpR X (compareOp .In) (fun x y H Q => ∃ i j, x = .str i ∧ y = .str j ∧ Q (.bl (!(Builtin.Str.occurrences j i 0 j.length 1).isEmpty)) H) := by
 intro pins s σ H x y v u Q I rx ry h
 obtain ⟨i, j, rfl, rfl, q⟩ := h
 obtain ⟨t, rfl⟩ := rx
 obtain ⟨t', rfl⟩ := ry
 exact in_str (fin_bl I q rfl)
theorem op_isN : OpR X (compareOp .Is) (fun x y H Q => y = .non ∧ Q (.bl (decide (x = .non))) H) := by
 intro pins s σ H x y v u Q I rx ry h
 obtain ⟨rfl, q⟩ := h
 cases ry
 refine is_none_gen (fin_bl I q ?_)
 cases x <;> first
  | (cases rx; rfl)
  | (obtain ⟨t, rfl⟩ := rx; rfl)
theorem op_notin_str : OpR X (compareOp .NotIn) (fun x y H Q => ∃ i j, x = .str i ∧ y = .str j ∧ Q (.bl (!(!(Builtin.Str.occurrences j i 0 j.length 1).isEmpty))) H) := by
 intro pins s σ H x y v u Q I rx ry h
 obtain ⟨i, j, rfl, rfl, q⟩ := h
 obtain ⟨t, rfl⟩ := rx
 obtain ⟨t', rfl⟩ := ry
 exact notIn_str (fin_bl I q rfl)
theorem OpR.or {f : Value → Value → Sem Value} {r r' : R2} (h : OpR X f r) (h' : OpR X f r') : OpR X f (fun x y H Q => r x y H Q ∨ r' x y H Q) := by
 intro pins s σ H x y v u Q I rx ry q
 rcases q with q | q
 · exact h pins s σ H x y v u Q I rx ry q
 · exact h' pins s σ H x y v u Q I rx ry q
theorem nomark (b : Expr) {op : CmpOp} (h : op ≠ .In := by decide) (h2 : op ≠ .NotIn := by decide) : behindInMarks op b = false := by
 have e1 : (op == CmpOp.In) = false := by cases op <;> first | rfl | exact absurd rfl h
 have e2 : (op == CmpOp.NotIn) = false := by cases op <;> first | rfl | exact absurd rfl h2
 cases b <;> simp [behindInMarks, e1, e2]
theorem pe_cmpR {op : CmpOp} {r : R2} (ho : OpR X (compareOp op) r) (ha : PE X a ta) (hb : PE X b tb) (hm : behindInMarks op b = false) : PE X (.Compare a [op] [b] pos) (tOp r ta tb) := by
 intro pins s σ H Q I h
 exact wpAny_Compare1 (binT ha hb I h fun v u s2 x y H2 I2 rx ry q => ho pins s2 σ H2 x y v u Q I2 rx ry q) hm
noncomputable def tTest (t : TE) : TT := fun σ H Q => t σ H fun x H' => ∃ k, x = .bl k ∧ Q k H'
theorem pt_cmpR {op : CmpOp} {r : R2} (ho : OpR X (compareOp op) r) (ha : PE X a ta) (hb : PE X b tb) (hm : behindInMarks op b = false) : PT X (.Compare a [op] [b] pos) (tTest (tOp r ta tb)) := by
 intro pins s σ H Q I h
 refine wpAny_isTrue_Compare1 (thn (ha pins s σ H _ I h) fun v s1 ⟨x, H1, I1, r1, q1⟩ => thn (hb pins s1 σ H1 _ I1 q1) fun u s2 ⟨y, H2, I2, r2, q2⟩ =>
  thn (ho pins s2 σ H2 x y v u _ I2 r1 r2 q2) fun c s3 ⟨z, H3, I3, r3, k, e, q3⟩ => ?_) hm
 subst e
 cases r3
 exact wpAny_truthy_bool ⟨H3, I3, q3⟩
def TruV (K : PySem.W.Frag) (x : V) (H : Hp) (k : Bool) : Prop :=
 match x with
 | .non => k = false
 | .bl b => k = b
 | .int i => k = (i != 0)
 | .str y => y.length ≤ sizeLine ∧ k = ((y.length : Int) != 0)
 | .byt y => y.size ≤ sizeLine ∧ k = ((y.size : Int) != 0)
 | .ref p => (∃ xs, SqL K H p xs ∧ k = !xs.isEmpty) ∨ (∃ xs, SqT K H p xs ∧ k = !xs.isEmpty) ∨ ∃ kvs, H p = some (.dK kvs) ∧ k = !kvs.isEmpty
 | _ => False
theorem isEmpty_kv {κ : Type} {kvs : List (κ × V)} {vs : List (κ × Value)} (r : KV kvs vs) : (!vs.isEmpty) = !kvs.isEmpty := by
 cases r <;> rfl
theorem isEmpty_of {xs : List V} {its : List Value} (r : Vals xs its) : (!its.toArray.isEmpty) = !xs.isEmpty := by
 cases r <;> simp
theorem line63 : (sizeLine : Nat) < 2 ^ 63 := by rw [sizeLine_eq]; decide
theorem tru_ok : TruR X (fun x H Q => ∃ k, TruV X.K x H k ∧ Q k H) := by
 intro pins s σ H x v Q I rx h
 obtain ⟨k, e, q⟩ := h
 have hl := line63
 have hs : sizeLine = 16777216 := sizeLine_eq
 cases x with
 | non =>
  cases rx
  have e' : k = false := e
  subst e'
  exact truthy_none ⟨H, I, q⟩
 | bl b =>
  cases rx
  have e' : k = b := e
  subst e'
  exact wpAny_truthy_bool ⟨H, I, q⟩
 | int i =>
  obtain ⟨t, rfl⟩ := rx
  have e' : k = (i != 0) := e
  subst e'
  exact PySem.P.truthy_int ⟨H, I, q⟩
 | str y =>
  obtain ⟨t, rfl⟩ := rx
  obtain ⟨hy, e'⟩ : y.length ≤ sizeLine ∧ k = ((y.length : Int) != 0) := e
  subst e'
  exact PySem.P.truthy_str (by omega) ⟨H, I.tok _, q⟩
 | byt y =>
  obtain ⟨t, rfl⟩ := rx
  obtain ⟨hy, e'⟩ : y.size ≤ sizeLine ∧ k = ((y.size : Int) != 0) := e
  subst e'
  exact PySem.W.truthy_bytes (by omega) ⟨H, I.tok _, q⟩
 | ref p =>
  cases rx
  have e' : (∃ xs, SqL X.K H p xs ∧ k = !xs.isEmpty) ∨ (∃ xs, SqT X.K H p xs ∧ k = !xs.isEmpty) ∨ ∃ kvs, H p = some (.dK kvs) ∧ k = !kvs.isEmpty := e
  rcases e' with ⟨xs, hx, e'⟩ | ⟨xs, hx, e'⟩ | ⟨kvs, hx, e'⟩
  · subst e'
    obtain ⟨its, r, pl, hz⟩ := I.list hx
    have hlen := r.length
    exact wpAny_truthy_list pl.isList (by simp only [List.size_toArray]; omega) ⟨H, I.tok _, by rw [isEmpty_of r]; exact q⟩
  · subst e'
    obtain ⟨its, r, pl, hz⟩ := I.tuple hx
    have hlen := r.length
    exact truthy_tuple pl (by simp only [List.size_toArray]; omega) ⟨H, I.tok _, by rw [isEmpty_of r]; exact q⟩
  · subst e'
    obtain ⟨hz, hS, vs, r, m⟩ : kvs.length ≤ sizeLine ∧ (p == sysModules) = false ∧ ∃ vs, KV kvs vs ∧ s.heap.DictOf (mixKind X.prog X.w) p vs := I.hok p _ hx
    have hlen : kvs.length = vs.length := Paired.length r
    exact wpAny_truthy_dict hS m (by omega) ⟨H, I.tok _, by rw [isEmpty_kv r]; exact q⟩
 | _ => exact (show False from e).elim
theorem pt_truth (ha : PE X a ta) (he : ∀ whole, isTrue a X.env whole = (do let v ← whole; standAt a.pos; holding [v] (truthy v))) :
    PT X a (fun σ H Q => ta σ H fun x H' => ∃ k, TruV X.K x H' k ∧ Q k H') := by
  intro pins s σ H Q I h
  exact isTrue_plain (thn (ha pins s σ H _ I h) fun v s1 ⟨x, H1, I1, r1, q1⟩ => tru_ok pins s1 σ H1 x v Q I1 r1 q1) (he _)
theorem op_add_str : OpR X (binaryOp .Add) (fun x y H Q => ∃ i j, x = .str i ∧ y = .str j ∧ i.length + j.length ≤ sizeLine ∧ Q (.str (i ++ j)) H) := by
 intro pins s σ H x y v u Q I rx ry h
 obtain ⟨i, j, rfl, rfl, hz, q⟩ := h
 obtain ⟨t, rfl⟩ := rx
 obtain ⟨t', rfl⟩ := ry
 exact add_str (fun t' tk => ⟨.str (i ++ j), H, I.tok _, ⟨_, rfl⟩, q⟩) hz
theorem vals1 {x : V} {us : List Value} (r : Vals [x] us) : ∃ u, us = [u] ∧ RelV x u := by
 cases r with
 | cons r1 r2 => cases r2; exact ⟨_, rfl, r1⟩
theorem vals2 {x y : V} {us : List Value} (r : Vals [x, y] us) : ∃ u w', us = [u, w'] ∧ RelV x u ∧ RelV y w' := by
 cases r with
 | cons r1 r2 =>
  cases r2 with
  | cons r3 r4 => cases r4; exact ⟨_, _, rfl, r1, r3⟩
theorem call_int1 : CallR X (.type "int") (fun xs H Q => (∃ i, xs = [.int i] ∧ Q (.int i) H) ∨ ∃ k, xs = [.bl k] ∧ Q (.int (if k then 1 else 0)) H) := by
 intro pins s σ H xs us Q I r h
 rcases h with ⟨i, rfl, q⟩ | ⟨k, rfl, q⟩
 · obtain ⟨u, rfl, t, rfl⟩ := vals1 r
   exact call_int_int ⟨.int i, H, I, ⟨_, rfl⟩, q⟩
 · obtain ⟨u, rfl, r1⟩ := vals1 r
   cases r1
   exact call_int_bool ⟨.int (if k then 1 else 0), H, I.tok _, ⟨_, rfl⟩, q⟩
end
end L2
namespace L2
open PySem PySem.Spec PyProof.Rows
structure ObjM (h : Heap) (x dx C : Addr) (mA : Str → Option Value) : Prop where
 obj : h.get? x = some (PySem.W.instObj C dx)
 ns : h.Ns1 dx mA
 ne : dx ≠ x
theorem lookIn_ns {h : Heap} {dx : Addr} {mA : Str → Option Value} (n : h.Ns1 dx mA) : ∃ od, h.get? dx = some od ∧ ∀ name, PySem.W.lookIn name od = some (mA name) := by
 obtain ⟨o, es, ep, ho, hd, hk, _, hm⟩ := n
 refine ⟨o, ho, fun name => ?_⟩
 have e := hm name
 unfold nsFind findBy at e
 rw [← Array.find?_toList] at e
 unfold PySem.W.lookIn
 rw [hd]
 dsimp only
 split
 · rename_i y q
   rw [q] at e
   exact congrArg some e
 · rename_i q
   rw [q] at e
   have a : es.toList.any (·.refKey) = false := by
    rw [List.any_eq_false]
    intro y hy
    obtain ⟨z, t, hkey⟩ := hk y (Array.mem_toList_iff.mp hy)
    simp [DictEntry.refKey, hkey]
   have a' : ¬ es.toList.any (·.refKey) = true := by rw [a]; exact Bool.false_ne_true
   rw [if_neg a']
   exact congrArg some e
theorem ObjM.look {h : Heap} {x dx C : Addr} {mA : Str → Option Value} (I : ObjM h x dx C mA) : ∃ od, PySem.W.InstAt h x (PySem.W.instObj C dx) C (some od) ∧ ∀ name, PySem.W.lookIn name od = some (mA name) :=
 let ⟨od, ho, hl⟩ := lookIn_ns I.ns
 ⟨od, ⟨I.obj, rfl, rfl, ho⟩, hl⟩
section
variable {prog : Program} {w : World} {A : Around} {E : Value → Shared → Prop} {s : Shared} {K : PySem.W.Frag} {x dx C f : Addr} {mA : Str → Option Value} {name : Str} {v : Value}
theorem get_map {expr : Bool} {Q : Value → Shared → Prop} (X : K.In s.heap) (I : ObjM s.heap x dx C mA) (hg : PySem.W.plainGet K C name = true) (hh : PySem.W.hasDictIn K C = true)
    (ha : PySem.W.findIn K (.ref C) name = some none) (hv : mA name = some v) (hv' : PySem.W.handedIn v = true) (h : Q v { s with toks := s.toks + 1 }) :
    wpAny (model prog w) A (getAttr (.ref x) name expr) Q E s := by
  obtain ⟨od, J, hl⟩ := I.look
  exact PySem.W.get_value X J (PySem.W.plainGet_of hg).1 (PySem.W.findObj_own hh ha rfl (by rw [hl, hv])) hv' h
theorem get_meth {pl : Sem Bool} {Q : Value × List Value → Shared → Prop} (X : K.In s.heap) (I : ObjM s.heap x dx C mA) (hg : PySem.W.plainGet K C name = true)
    (hf : PySem.W.findIn K (.ref C) name = some (some (.ref f))) (ht : PySem.W.isFn K (.ref f) = true) (hv : mA name = none) (h : Q (.ref f, [.ref x]) s) :
    wpAny (model prog w) A (getMethod (.ref x) name pl) Q E s := by
  obtain ⟨od, J, hl⟩ := I.look
  exact PySem.W.method_fn X J (PySem.W.plainGet_of hg).1 (PySem.W.plainGet_of hg).2 hf (beq_iff_eq.mp ht) (by show (PySem.W.lookIn name od).map (·.isSome) = some false; rw [hl, hv]; rfl) h
theorem set_map {ns : List Str} {Q : Unit → Shared → Prop} (X : K.In s.heap) (I : ObjM s.heap x dx C mA)
    (hs : PySem.W.findIn K (.ref C) "__setattr__" = some (some (.builtin "object.__setattr__"))) (hp : PySem.W.plainOver K C = true) (ht : PySem.W.takerIn K C name = some none) (hh : PySem.W.hasDictIn K C = true)
    (hw : PySem.Within mA ns) (hsz : ns.length ≤ sizeLine)
    (h : ∀ h', ObjM h' x dx C (fun y => if y = name then some v else mA y) → Heap.SameBut dx s.heap h' → Q () { s with heap := h', toks := s.toks + 2 }) :
    wpAny (model prog w) A (setAttr (.ref x) name v) Q E s := by
  obtain ⟨od, J, hl⟩ := I.look
  refine PySem.W.set_plain X J hs (PySem.W.osa_open (s := { s with toks := s.toks + 1 }) (r := none) X J hp ht fun b => ?_)
  obtain ⟨cd, hc, hd'⟩ := PySem.W.any_some hh
  have hx : s.heap.get? x = some ⟨.ref C, some dx, .plain, #[]⟩ := I.obj
  refine wpAny_bind (wpAny_pure (wpAny_bind (wpAny_bind (wpAny_loadPart hx (wpAny_bind (PySem.W.Looks.here (s := { s with toks := s.toks + 1 }) (PySem.W.looks_clsIn X hc) ?_))))))
  rw [hd']
  refine wpAny_pure (a := some dx) (wpAny_bind (wpAny_pure (wpAny_bind ?_)))
  refine wpAny_nsSet1 (s := { s with toks := s.toks + 1 }) I.ns fun h' hn2 hs2 => ?_
  obtain ⟨oD, esD, epD, hoD, hdD, hcD⟩ := hn2.count (PySem.Within.cons name v hw)
  refine wpAny_bind (wpAny_lookBehind hoD (by rw [hdD]; exact pastItsLine_dict (Nat.le_trans hcD (by rw [List.length_cons]; omega))) ?_)
  exact wpAny_pure (h _ ⟨(hs2.2 _ (Ne.symm I.ne)).trans I.obj, hn2, I.ne⟩ hs2)
theorem make_map {R : Result → Shared → Prop} {vs : List Value} {kw : List (Str × Value)} (X : K.In s.heap) (hm : PySem.W.makesIn K C = true)
    (hi : PySem.W.findIn K (.ref C) "__init__" = some (some (.ref f))) (hf : PySem.W.typeIn K (.ref f) = some (.type "function"))
    (h : codeAny (model prog w) (A.under (.builtin "type.__call__" ⟨.ref C :: vs, kw⟩)) (.call (.ref f) ⟨.ref (s.heap.objs.size + 1) :: vs, kw⟩) (PySem.W.InitBack (s.heap.objs.size + 1) R)
      { s with heap := (s.heap.push PySem.W.emptyDict).push (PySem.W.instObj C s.heap.objs.size) }) :
    codeAny (model prog w) A (.call (.ref C) ⟨vs, kw⟩) R s := by
  obtain ⟨hh, g, d, t, os⟩ := s
  exact PySem.W.make_core (PySem.W.makes_of X hm) (PySem.W.looks_findIn X hi) (fun self => PySem.W.bind_fn X self hf) (.inl rfl) h
end
noncomputable def putF (f : Str) (v : V) : List (Str × V) → List (Str × V)
 | [] => [(f, v)]
 | (g, x) :: r => if g = f then (g, v) :: r else (g, x) :: putF f v r
theorem lookup_putF (f g : Str) (v : V) : ∀ fs : List (Str × V), (putF f v fs).lookup g = if g = f then some v else fs.lookup g
 | [] => by
  show List.lookup g [(f, v)] = _
  by_cases h : g = f
  · have hb : (g == f) = true := beq_iff_eq.mpr h
    simp only [List.lookup, hb, if_pos h]
  · have hb : (g == f) = false := beq_eq_false_iff_ne.mpr h
    simp only [List.lookup, hb, if_neg h]
 | (k, x) :: r => by
  have ih := lookup_putF f g v r
  rw [show putF f v ((k, x) :: r) = (if k = f then (k, v) :: r else (k, x) :: putF f v r) from rfl]
  by_cases hk : k = f
  · rw [if_pos hk]
    by_cases h : g = k
    · have hb : (g == k) = true := beq_iff_eq.mpr h
      simp only [List.lookup, hb, if_pos (h.trans hk)]
    · have hb : (g == k) = false := beq_eq_false_iff_ne.mpr h
      simp only [List.lookup, hb, if_neg (fun e : g = f => h (e.trans hk.symm))]
  · rw [if_neg hk]
    by_cases h : g = k
    · have hb : (g == k) = true := beq_iff_eq.mpr h
      simp only [List.lookup, hb, if_neg (fun e : g = f => hk (h.symm.trans e))]
    · have hb : (g == k) = false := beq_eq_false_iff_ne.mpr h
      simp only [List.lookup, hb]
      exact ih
theorem keys_putF (f : Str) (v : V) : ∀ fs : List (Str × V), f ∈ (putF f v fs).map (·.1) ∧ ∀ g, g ∈ fs.map (·.1) → g ∈ (putF f v fs).map (·.1)
 | [] => ⟨by simp [putF], fun g h => by simp at h⟩
 | (k, x) :: r => by
  obtain ⟨i1, i2⟩ := keys_putF f v r
  rw [show putF f v ((k, x) :: r) = (if k = f then (k, v) :: r else (k, x) :: putF f v r) from rfl]
  by_cases hk : k = f
  · rw [if_pos hk]
    subst hk
    exact ⟨by simp, fun g h => by simpa using h⟩
  · rw [if_neg hk]
    refine ⟨?_, fun g h => ?_⟩
    · rw [List.map_cons]
      exact List.mem_cons_of_mem _ i1
    · rw [List.map_cons] at h ⊢
      rcases List.mem_cons.mp h with e | e
      · exact List.mem_cons.mpr (.inl e)
      · exact List.mem_cons_of_mem _ (i2 g e)
theorem length_putF (f : Str) (v : V) : ∀ fs : List (Str × V), (putF f v fs).length ≤ fs.length + 1
 | [] => by simp [putF]
 | (k, x) :: r => by
  have ih := length_putF f v r
  rw [show putF f v ((k, x) :: r) = (if k = f then (k, v) :: r else (k, x) :: putF f v r) from rfl]
  by_cases hk : k = f
  · rw [if_pos hk, List.length_cons, List.length_cons]; omega
  · rw [if_neg hk, List.length_cons, List.length_cons]; omega
theorem RelO.some_of {v : V} {o : Option Value} (r : RelO (some v) o) : ∃ u, o = some u ∧ RelV v u := by
 cases o with
 | none => exact (show False from r).elim
 | some u => exact ⟨u, rfl, r⟩
theorem RelO.none_of {o : Option Value} (r : RelO none o) : o = none := by
 cases o with
 | none => rfl
 | some u => exact (show False from r).elim
theorem handed_of {v : V} {u : Value} (r : RelV v u) : PySem.W.handedIn u = true := by
 cases v with
 | non => cases (show u = Value.none from r); rfl
 | bl b => cases (show u = Value.bool b from r); rfl
 | int i => obtain ⟨t, e⟩ := (show ∃ t, u = Value.int i t from r); cases e; rfl
 | str x => obtain ⟨t, e⟩ := (show ∃ t, u = Value.str x t from r); cases e; rfl
 | byt b => obtain ⟨t, e⟩ := (show ∃ t, u = Value.bytes b t from r); cases e; rfl
 | flt b => obtain ⟨t, e⟩ := (show ∃ t, u = Value.float b t from r); cases e; rfl
 | ref a => cases (show u = Value.ref a from r); rfl
 | ty n => cases (show u = Value.type n from r); rfl
section
variable {P : Program} {w : World} {H H' : Hp} {h h' : Heap} {a C dx : Addr} {fs fs' : List (Str × V)}
theorem ins_get (hok : HOk P w H h) (e : H a = some (.ins C dx fs)) : ∃ mA, ObjM h a dx C mA ∧ (∀ f, RelO (fs.lookup f) (mA f)) ∧ PySem.Within mA (fs.map (·.1)) ∧ fs.length ≤ 1000 ∧ H dx = some (.own a) := by
 obtain ⟨d, z, ne, ob, mA, n, r, q⟩ := (show ObjOk P w H h a (.ins C dx fs) from hok a _ e)
 exact ⟨mA, ⟨ob, n, ne⟩, r, q, z, d⟩
end
structure Cls (K : PySem.W.Frag) (C : Addr) : Prop where
 pg : PySem.W.plainGet K C Str.empty = true
 hd : PySem.W.hasDictIn K C = true
 po : PySem.W.plainOver K C = true
 sa : PySem.W.findIn K (.ref C) "__setattr__" = some (some (.builtin "object.__setattr__"))
theorem Cls.get {K : PySem.W.Frag} {C : Addr} (c : Cls K C) (f : Str) : PySem.W.plainGet K C f = true := c.pg
def NoAttr (K : PySem.W.Frag) (C : Addr) (f : Str) : Prop := PySem.W.findIn K (.ref C) f = some none
theorem NoAttr.taker {K : PySem.W.Frag} {C : Addr} {f : Str} (n : NoAttr K C f) : PySem.W.takerIn K C f = some none := by
 unfold PySem.W.takerIn
 rw [show PySem.W.findIn K (.ref C) f = some none from n]
 rfl
structure Meth (K : PySem.W.Frag) (C : Addr) (m : Str) (f : Addr) : Prop where
 at_ : PySem.W.findIn K (.ref C) m = some (some (.ref f))
 fn : PySem.W.isFn K (.ref f) = true
 kp : PySem.W.keepIn K (.ref f) = true
section
variable {X : Cx} {pins : List (Addr × Obj)} {σ : St} {H : Hp} {s : Shared} {a C dx : Addr} {fs : List (Str × V)} {f : Str} {v : V} {A : Around} {E : Value → Shared → Prop}
theorem getattr_ok {b : Bool} {Q : Value → Shared → Prop} (I : Inv X pins σ H s) (e : H a = some (.ins C dx fs)) (c : Cls X.K C) (n : NoAttr X.K C f) (l : fs.lookup f = some v)
    (h : ∀ u s', Inv X pins σ H s' → RelV v u → Q u s') : wpAny (model X.prog X.w) A (getAttr (.ref a) f b) Q E s := by
  obtain ⟨mA, O, r, _, _, _⟩ := ins_get I.hok e
  obtain ⟨u, hu, ru⟩ := RelO.some_of (v := v) (o := mA f) (by rw [← l]; exact r f)
  exact get_map I.kIn O (c.get f) c.hd n hu (handed_of ru) (h u _ (I.tok _) ru)
theorem getmeth_ok {m : Str} {g : Addr} {pl : Sem Bool} {Q : Value × List Value → Shared → Prop} (I : Inv X pins σ H s) (e : H a = some (.ins C dx fs)) (c : Cls X.K C) (k : Meth X.K C m g) (l : fs.lookup m = none)
    (h : Q (.ref g, [.ref a]) s) : wpAny (model X.prog X.w) A (getMethod (.ref a) m pl) Q E s := by
  obtain ⟨mA, O, r, _, _, _⟩ := ins_get I.hok e
  have hn : mA m = none := RelO.none_of (by rw [← l]; exact r m)
  exact get_meth I.kIn O (c.get m) k.at_ k.fn hn h
theorem setattr_ok {y : V} {u : Value} {Q : Unit → Shared → Prop} (I : Inv X pins σ H s) (e : H a = some (.ins C dx fs)) (c : Cls X.K C) (n : NoAttr X.K C f) (hl : fs.length < 1000) (ry : RelV y u)
    (h : ∀ s', Inv X pins σ (upd H a (.ins C dx (putF f y fs))) s' → Q () s') : wpAny (model X.prog X.w) A (setAttr (.ref a) f u) Q E s := by
  obtain ⟨mA, O, r, wi, _, ho⟩ := ins_get I.hok e
  have hz : (fs.map (·.1)).length ≤ sizeLine := by rw [List.length_map, sizeLine_eq]; omega
  refine set_map I.kIn O c.sa c.po n.taker c.hd wi hz fun h' O' sb => h _ ?_
  have hd : ∃ o, h'.get? dx = some o := let ⟨o, _, _, e', _⟩ := O'.ns; ⟨o, e'⟩
  refine I.write (x := a) (e := dx) (by rw [e]; exact True.intro) (.inr ho) (fun b q hb z => (sb.2 b hb).trans z) hd ?_
  refine ⟨by rw [upd_ne O.ne]; exact ho, ?_, O.ne, O'.obj, _, O'.ns, fun g => ?_, fun g hg => ?_⟩
  · have := length_putF f y fs; omega
  · show RelO ((putF f y fs).lookup g) (if g = f then some u else mA g)
    rw [lookup_putF]
    by_cases q : g = f
    · rw [if_pos q, if_pos q]; exact ry
    · rw [if_neg q, if_neg q]; exact r g
  · by_cases q : g = f
    · rw [q]; exact (keys_putF f y fs).1
    · refine (keys_putF f y fs).2 g (wi g fun z => hg ?_)
      show (if g = f then some u else mA g) = none
      rw [if_neg q]; exact z
theorem Inv.made (I : Inv X pins σ H s) : Inv X pins σ (upd (upd H s.heap.objs.size (.own (s.heap.objs.size + 1))) (s.heap.objs.size + 1) (.ins C s.heap.objs.size []))
    { s with heap := (s.heap.push PySem.W.emptyDict).push (PySem.W.instObj C s.heap.objs.size) } := by
  have e1 : (s.heap.push PySem.W.emptyDict).get? s.heap.objs.size = some PySem.W.emptyDict := Heap.get?_push_size s.heap rfl
  have e2 : ((s.heap.push PySem.W.emptyDict).push (PySem.W.instObj C s.heap.objs.size)).get? (s.heap.objs.size + 1) = some (PySem.W.instObj C s.heap.objs.size) := by
    have := Heap.get?_push_size (s.heap.push PySem.W.emptyDict) (o := PySem.W.instObj C s.heap.objs.size) rfl
    rwa [Heap.size_push] at this
  have e3 : (s.heap.push PySem.W.emptyDict).Ns s.heap.objs.size (fun _ => none) := ⟨PySem.W.emptyDict, #[], _, e1, rfl, (fun e he => absurd he (by simp)), fun _ => rfl⟩
  have I1 := I.laid (a := s.heap.objs.size) (o := .own (s.heap.objs.size + 1)) (h' := s.heap.push PySem.W.emptyDict) (t' := s.toks) (fun b u q => Heap.get?_push_of_some _ q) (Nat.le_refl _) ⟨_, e1⟩
  refine I1.laid (a := s.heap.objs.size + 1) (o := .ins C s.heap.objs.size []) (t' := s.toks) (fun b u q => Heap.get?_push_of_some _ q) (Nat.le_of_eq (Heap.size_push _ _)) ?_
  have ne : s.heap.objs.size ≠ s.heap.objs.size + 1 := Nat.ne_of_lt (Nat.lt_succ_self _)
  refine ⟨by rw [upd_ne ne, upd_same], Nat.zero_le _, ne, e2, fun _ => none, (Heap.Ns1.of_empty e3).at fun o q => Heap.get?_push_of_some _ q, fun _ => True.intro, fun y hy => absurd rfl hy⟩
theorem attr_of {prog : Program} {w : World} {env : Env} {e : Expr} {f : Str} {pos : Pos} {s : Shared} {Q : Value → Shared → Prop} (hb : attributeBase e f env (eval e env) = eval e env)
    (h : wpAny (model prog w) A (eval e env) (fun o s₁ => wpAny (model prog w) A (getAttr o f true) Q E s₁) E s) : wpAny (model prog w) A (eval (.Attribute e f pos) env) Q E s :=
  Attribute_any_ h (by rw [arm_eval_Attribute, hb])
end
noncomputable def tFld (K : PySem.W.Frag) (ta : TE) (f : Str) : TE := fun σ H Q => ta σ H fun x H1 => ∃ a C dx fs v, x = .ref a ∧ H1 a = some (.ins C dx fs) ∧ Cls K C ∧ NoAttr K C f ∧ fs.lookup f = some v ∧ Q v H1
noncomputable def sFld (K : PySem.W.Frag) (ta tv : TE) (f : Str) : TS := fun D σ H => tv σ H fun y H1 => ta σ H1 fun x H2 => ∃ a C dx fs, x = .ref a ∧ H2 a = some (.ins C dx fs) ∧ Cls K C ∧ NoAttr K C f ∧ fs.length < 1000 ∧
 D.nx σ (upd H2 a (.ins C dx (putF f y fs)))
section
variable {X : Cx} {o e value : Expr} {f : Str} {pos pos' tpos : Pos} {ta tv : TE}
theorem pe_fld (he : PE X e ta) (hb : attributeBase e f X.env (eval e X.env) = eval e X.env) : PE X (.Attribute e f pos) (tFld X.K ta f) := by
 intro pins s σ H Q I h
 refine attr_of hb (thn (he pins s σ H _ I h) fun u s1 ⟨x, H1, I1, rx, a, C, dx, fs, v, ex, ea, c, n, l, q⟩ => ?_)
 subst ex
 obtain rfl : u = Value.ref a := rx
 exact getattr_ok I1 ea c n l fun u' s2 I2 ru => ⟨v, H1, I2, ru, q⟩
theorem ps_fld (ha : PE X o ta) (hv : PE X value tv) (hs : swapsWith value (some (.Attribute o f pos')) pos.line X.env = pure false) : PS X (.Assign [.Attribute o f pos'] value pos) (sFld X.K ta tv f) := by
 intro pins s σ H D I h
 refine plainObj_wpAny_Assign_Attribute (thn (hv pins s σ H _ I h) fun u s1 ⟨y, H1, I1, ry, q⟩ => thn (ha pins s1 σ H1 _ I1 q) fun ov s2 ⟨x, H2, I2, rx, a, C, dx, fs, ex, ea, c, n, l, q2⟩ => ?_) hs
 subst ex
 obtain rfl : ov = Value.ref a := rx
 exact setattr_ok I2 ea c n l ry fun s3 I3 => ⟨σ, _, I3, q2⟩
end
section
variable {X : Cx} {pins : List (Addr × Obj)} {σ : St} {H : Hp} {s : Shared} {A : Around} {E : Value → Shared → Prop} {Q : Value → Shared → Prop} {c : Value} {b : Bool}
end
end L2
namespace L2
open PySem PySem.Spec PyProof.Rows
structure Room (k : Nat) (A : Around) : Prop where
 hd : A.handled = none
 dp : A.depth + 3 * k + 5 < recursionLimit
 un : A.units + 16 * k + 200 < cLine
theorem Room.mono {j k : Nat} {A : Around} (r : Room k A) (h : j ≤ k) : Room j A := ⟨r.hd, by have := r.dp; omega, by have := r.un; omega⟩
theorem Room.deeper {k : Nat} {A : Around} (r : Room (k + 1) A) (env : Env) : Room k (A.deeper env) :=
 ⟨r.hd, by have := r.dp; show A.depth + 1 + 3 * k + 5 < _; omega, by have := r.un; show A.units + 3 + 16 * k + 200 < _; omega⟩
theorem make_depth {A : Around} {C : Addr} {us : List Value} {kw : List (Str × Value)} : (A.under (.builtin "type.__call__" ⟨.ref C :: us, kw⟩)).depth = A.depth + 1 := by
 first | rfl | simp [Around.under, Code.weight, Code.isCreation, Code.isGuard, Code.isCaller, Code.frames, Code.isFrame, guardIds]
theorem make_units {A : Around} {C : Addr} {us : List Value} {kw : List (Str × Value)} : (A.under (.builtin "type.__call__" ⟨.ref C :: us, kw⟩)).units = A.units + 1 := by
 first | rfl | simp [Around.under, Code.cUnits, Code.frames, Code.isFrame]
theorem Room.make {k : Nat} {A : Around} (r : Room (k + 1) A) (C : Addr) (us : List Value) (kw : List (Str × Value)) : Room k (A.under (.builtin "type.__call__" ⟨.ref C :: us, kw⟩)) :=
 ⟨r.hd, by have := r.dp; rw [make_depth]; omega, by have := r.un; rw [make_units]; omega⟩
theorem Room.depth {k : Nat} {A : Around} (r : Room k A) : A.depth < recursionLimit := by have := r.dp; omega
theorem Room.units {k : Nat} {A : Around} (r : Room k A) : A.units + 64 < cLine := by have := r.un; omega
noncomputable def tNil : TA := fun _ H Q => Q [] H
noncomputable def tCons (ta : TE) (tr : TA) : TA := fun σ H Q => ta σ H fun x H1 => tr σ H1 fun xs H2 => Q (x :: xs) H2
section
variable {X : Cx} {e : Expr} {es : List Expr} {te : TE} {t : TA} {pos : Pos}
theorem pa_nil : PA X [] tNil := fun _ _ _ _ H Q I h => Calls.spliced_nil ⟨[], H, I, .nil, h⟩
theorem pa_cons (ha : PE X e te) (hr : PA X es t) (hs : starEach (e :: es) X.env = (false, eval e X.env) :: starEach es X.env := by rfl) : PA X (e :: es) (tCons te t) := by
 intro pos pins s σ H Q I h
 rw [hs]
 show wpAny _ _ (spliced ((false, eval e X.env) :: backTo pos (starEach es X.env))) _ _ s
 refine Calls.spliced_cons (thn (ha pins s σ H _ I h) fun u s1 ⟨x, H1, I1, r1, q1⟩ => ?_)
 exact thn (hr pos pins s1 σ H1 _ I1 q1) fun us s2 ⟨xs, H2, I2, r2, q2⟩ => ⟨x :: xs, H2, I2, .cons r1 r2, q2⟩
noncomputable def tTup (t : TA) : TE := fun σ H Q => t σ H fun xs H1 => xs.length ≤ sizeLine ∧ ∀ p, H1 p = none → Q (.ref p) (upd H1 p (.tup xs))
noncomputable def tLst (t : TA) : TE := fun σ H Q => t σ H fun xs H1 => xs.length ≤ sizeLine ∧ ∀ p, H1 p = none → Q (.ref p) (upd H1 p (.lst xs))
theorem pe_tup {x1} (h : PA X es t) : PE X (.Tuple es x1 pos) (tTup t) := by
 intro pins s σ H Q I hq
 refine wpAny_Tuple_spliced (thn (h pos pins s σ H _ I hq) fun us s1 ⟨xs, H1, I1, r, z, q⟩ => ⟨by rw [← r.length]; exact z, ?_⟩)
 have hf : H1 s1.heap.objs.size = none := I1.hok.fresh (Nat.le_refl _)
 refine ⟨.ref s1.heap.objs.size, upd H1 s1.heap.objs.size (.tup xs), I1.laid (t' := s1.toks) (fun b u e => Heap.get?_push_of_some _ e) (Nat.le_refl _) ?_, rfl, q _ hf⟩
 exact ⟨z, us, r, ⟨_, Heap.get?_push_size _ rfl, rfl, _, rfl⟩⟩
theorem pe_lst (h : PA X es t) : PE X (.List es pos) (tLst t) := by
 intro pins s σ H Q I hq
 refine wpAny_List_spliced (thn (h pos pins s σ H _ I hq) fun us s1 ⟨xs, H1, I1, r, z, q⟩ => ⟨by rw [← r.length]; exact z, ?_⟩)
 have hf : H1 s1.heap.objs.size = none := I1.hok.fresh (Nat.le_refl _)
 refine ⟨.ref s1.heap.objs.size, upd H1 s1.heap.objs.size (.lst xs), I1.laid (t' := s1.toks) (fun b u e => Heap.get?_push_of_some _ e) (Nat.le_refl _) ?_, rfl, q _ hf⟩
 exact ⟨z, us, 0, r, Heap.get?_push_size _ rfl⟩
end
abbrev Sp := List V → Hp → VK → XK → Prop
abbrev CXT := List Env → Hp → Shared → XK → Value → Shared → Prop
structure Env0 (P : Program) (w : World) (K : PySem.W.Frag) (mg : Str → Option Value) (base : Heap) (A : Around) (outer : List Env) (s : Shared) (H : Hp) : Prop where
 frames : A.frames = some outer
 mod : Mod K mg base
 bs : ∀ b o, base.get? b = some o → s.heap.get? b = some o ∧ H b = none
 bsz : base.objs.size ≤ s.heap.objs.size
 funs : s.heap.FunFrames base outer
 frf : ∀ b ∈ frs outer, H b = none
 hok : HOk P w H s.heap
 bare : AllBare s.gens
def CE (outer : List Env) (P : Program) (w : World) (H : Hp) (s : Shared) (Q : VK) (u : Value) (s' : Shared) : Prop :=
 ∃ v H', s'.os = s.os ∧ AllBare s'.gens ∧ Un (frs outer) [] H H' s.heap s'.heap ∧ HOk P w H' s'.heap ∧ RelV v u ∧ Q v H'
def CR (CX : CXT) (outer : List Env) (P : Program) (w : World) (H : Hp) (s : Shared) (Q : VK) (E : XK) (r : Result) (s' : Shared) : Prop :=
 match r with
 | .ok (.ret u) => CE outer P w H s Q u s'
 | .ok _ => False
 | .error e => CX outer H s E e s'
structure FnOk (P : Program) (w : World) (K : PySem.W.Frag) (mg : Str → Option Value) (base : Heap) (CX : CXT) (k : Nat) (f : Addr) (fd : FuncData) (ps : List Str) (sp : Sp) : Prop where
 len : ∀ vs H Q E, sp vs H Q E → vs.length = ps.length
 run : ∀ (A : Around) (outer : List Env) (s : Shared) (H : Hp) (args : Args) (us : List Value) (vs : List V) (Q : VK) (E : XK), Room k A → Env0 P w K mg base A outer s H → BindsTo s fd args (ps.zip us) → Vals vs us → sp vs H Q E →
  codeAny (model P w) A (.call (.ref f) args) (CR CX outer P w H s Q E) s
theorem FnOk.imp {P : Program} {w : World} {K : PySem.W.Frag} {mg : Str → Option Value} {base : Heap} {CX : CXT} {k : Nat} {f : Addr} {fd : FuncData} {ps : List Str} {sp sp' : Sp} (F : FnOk P w K mg base CX k f fd ps sp)
    (h : ∀ vs H Q E, sp' vs H Q E → sp vs H Q E) : FnOk P w K mg base CX k f fd ps sp' :=
  ⟨fun vs H Q E q => F.len vs H Q E (h _ _ _ _ q), fun A outer s H args us vs Q E hr he hb hv hs => F.run A outer s H args us vs Q E hr he hb hv (h _ _ _ _ hs)⟩
theorem Env0.make {P : Program} {w : World} {K : PySem.W.Frag} {mg : Str → Option Value} {base : Heap} {A : Around} {outer : List Env} {s : Shared} {H : Hp} (e : Env0 P w K mg base A outer s H) (C : Addr) (us : List Value) (kw : List (Str × Value)) :
    Env0 P w K mg base (A.under (.builtin "type.__call__" ⟨.ref C :: us, kw⟩)) outer s H := ⟨by first | exact e.frames | (simpa [Around.under, Code.envs, Code.isFrame, pushEnvs] using e.frames), e.mod, e.bs, e.bsz, e.funs, e.frf, e.hok, e.bare⟩
section
variable {X : Cx} {pins : List (Addr × Obj)} {σ : St} {H : Hp} {s s' : Shared}
theorem Inv.env0 (I : Inv X pins σ H s) : Env0 X.prog X.w X.K X.mg X.base X.A X.stack s H :=
 ⟨I.ok.frames, I.ok.mod, I.bs, Nat.le_trans I.ok.bsz I.sz, I.stack, I.stkFree, I.hok, I.bare⟩
theorem Inv.after {Q : VK} {u : Value} (I : Inv X pins σ H s) (h : CE X.stack X.prog X.w H s Q u s') : EP X pins σ Q u s' := by
 obtain ⟨v, H', os, bare, un, hok, r, q⟩ := h
 obtain ⟨hh, g, d, t, os'⟩ := s'
 obtain rfl : os' = s.os := os
 exact ⟨v, H', I.call (h' := hh) (g' := g) (d' := d) (t' := t) (ch := []) un hok bare (fun b z => absurd z (by simp)), r, q⟩
end
noncomputable def tCall (sp : Sp) (dvs : List V) (E : XK) (t : TA) : TE := fun σ H Q => t σ H fun vs H1 => sp (vs ++ dvs) H1 Q E
noncomputable def tMeth (C : Addr) (m : Str) (sp : Sp) (dvs : List V) (E : XK) (ta : TE) (t : TA) : TE := fun σ H Q => ta σ H fun x H1 => ∃ a dx fs, x = .ref a ∧ H1 a = some (.ins C dx fs) ∧ fs.lookup m = none ∧
 t σ H1 fun vs H2 => sp (x :: (vs ++ dvs)) H2 Q E
noncomputable def tMake (C : Addr) (sp : Sp) (dvs : List V) (E : XK) (t : TA) : TE := fun σ H Q => t σ H fun vs H1 => ∀ x dx, H1 x = none → H1 dx = none → dx ≠ x →
 sp (.ref x :: (vs ++ dvs)) (upd (upd H1 dx (.own x)) x (.ins C dx [])) (fun v H2 => v = .non ∧ Q (.ref x) H2) E
def Binds (K : PySem.W.Frag) (fd : FuncData) (ps : List Str) (ds : List Value) : Prop :=
 ∀ (s : Shared) (us : List Value), K.In s.heap → (us ++ ds).length = ps.length → BindsTo s fd ⟨us, []⟩ (ps.zip (us ++ ds))
theorem Binds.all {K : PySem.W.Frag} {fd : FuncData} {ps : List Str} (h : ∀ us : List Value, us.length = ps.length → bindArgs fd ⟨us, []⟩ = pure (ps.zip us)) : Binds K fd ps [] := fun s us _ hl => by
 rw [List.append_nil] at hl ⊢
 exact .of_eq (h us hl)
def Passes (CX : CXT) (X : Cx) (E : XK) : Prop := ∀ (pins : List (Addr × Obj)) (σ : St) (H : Hp) (s : Shared) (e : Value) (s' : Shared), Inv X pins σ H s → CX X.stack H s E e s' → X.xe e s'
section
variable {X : Cx} {CX : CXT} {k : Nat} {f C : Addr} {fd : FuncData} {ps : List Str} {sp : Sp} {dvs : List V} {ds : List Value} {E : XK} {x m : Str} {p pos apos : Pos} {e o : Expr} {es : List Expr} {ta : TE} {t : TA}
theorem run_fn {pins : List (Addr × Obj)} {σ : St} {H : Hp} {s : Shared} {Q : VK} {us : List Value} {vs : List V} (F : FnOk X.prog X.w X.K X.mg X.base CX k f fd ps sp) (hr : Room k X.A) (hb : Binds X.K fd ps ds) (hd : Vals dvs ds) (hx : Passes CX X E)
    (I : Inv X pins σ H s) (r : Vals vs us) (h : sp (vs ++ dvs) H Q E) : wpAny (model X.prog X.w) X.A (call (.ref f) us) (EP X pins σ Q) X.xe s := by
  have r2 : Vals (vs ++ dvs) (us ++ ds) := r.append hd
  have hl : (us ++ ds).length = ps.length := by rw [← r2.length]; exact F.len _ _ _ _ h
  refine wpAny_call (codeAny_mono (F.run X.A X.stack s H ⟨us, []⟩ (us ++ ds) (vs ++ dvs) Q E hr I.env0 (hb s us I.kIn hl) r2 h) fun r s' hq => ?_)
  cases r with
  | error e => exact hx pins σ H s e s' I hq
  | ok fl =>
    cases fl with
    | ret u => exact I.after hq
    | next => exact False.elim hq
    | brk => exact False.elim hq
    | cont => exact False.elim hq
theorem pe_call (F : FnOk X.prog X.w X.K X.mg X.base CX k f fd ps sp) (hr : Room k X.A) (hg : Gl X x) (hm : X.mg x = some (.ref f)) (hk : PySem.W.keepIn X.K (.ref f) = true) (hb : Binds X.K fd ps ds) (hd : Vals dvs ds) (hx : Passes CX X E)
    (ha : PA X (e :: es) t) (hdb : (x == ("__debug__" : Str)) = false := by decide) (he : starEach (e :: es) X.env = (false, eval e X.env) :: starEach es X.env := by rfl) (hpl : (backTo pos (starEach es X.env)).any (·.1) = false := by rfl) :
    PE X (.Call (.Name x p) (e :: es) [] pos) (tCall sp dvs E t) := by
  intro pins s σ H Q I h
  refine wpAny_Call_Name_kw (ld_glob I hg hm ?_ hdb)
  refine PySem.W.callWith_K (h₀ := X.base) I.ok.mod.kin hk (thn (ha pos pins s σ H _ I h) fun us s1 ⟨vs, H1, I1, r, q⟩ => ⟨I1.kIn, ?_⟩) he hpl
  exact run_fn F hr hb hd hx I1 r q
theorem pe_meth {pl : Sem Bool} (he : PE X o ta) (c : Cls X.K C) (hm : Meth X.K C m f) (F : FnOk X.prog X.w X.K X.mg X.base CX k f fd ps sp) (hr : Room k X.A) (hb : Binds X.K fd ps ds) (hd : Vals dvs ds) (hx : Passes CX X E) (ha : PA X (e :: es) t)
    (hst : starEach (e :: es) X.env = (false, eval e X.env) :: starEach es X.env := by rfl) (hpl : (backTo pos (starEach es X.env)).any (·.1) = false := by rfl)
    (ht : eval (.Call (.Attribute o m apos) (e :: es) [] pos) X.env = (do
      let ov ← eval o X.env
      standAt apos.atName
      let (f, first) ← holding [ov] (getMethod ov m pl)
      callWith pos f first (backTo pos (starEach (e :: es) X.env)) (backToKw pos (keywordEach [] X.env))) := by rfl) :
    PE X (.Call (.Attribute o m apos) (e :: es) [] pos) (tMeth C m sp dvs E ta t) := by
  intro pins s σ H Q I h
  refine PySem.W.methodCall_KW (pl := pl) (thn (he pins s σ H _ I h) fun u s1 ⟨x, H1, I1, rx, a, dx, fs, ex, ea, l, q⟩ => ?_) ht
  subst ex
  obtain rfl : u = Value.ref a := rx
  refine getmeth_ok I1 ea c hm l ?_
  refine PySem.W.callWith_K (first := [.ref a]) (h₀ := X.base) I.ok.mod.kin hm.kp (thn (ha pos pins s1 σ H1 _ I1 q) fun us s2 ⟨vs, H2, I2, r, q2⟩ => ⟨I2.kIn, ?_⟩) hst hpl
  exact run_fn (us := .ref a :: us) (vs := .ref a :: vs) F hr hb hd hx I2 (.cons rfl r) q2
structure Mk (K : PySem.W.Frag) (C f : Addr) : Prop where
 makes : PySem.W.makesIn K C = true
 init : PySem.W.findIn K (.ref C) "__init__" = some (some (.ref f))
 fn : PySem.W.isFn K (.ref f) = true
 kp : PySem.W.keepIn K (.ref C) = true
theorem run_make {pins : List (Addr × Obj)} {σ : St} {H : Hp} {s : Shared} {Q : VK} {us : List Value} {vs : List V} (M : Mk X.K C f) (F : FnOk X.prog X.w X.K X.mg X.base CX k f fd ps sp) (hr : Room (k + 1) X.A) (hb : Binds X.K fd ps ds) (hd : Vals dvs ds)
    (hx : Passes CX X E) (I : Inv X pins σ H s) (r : Vals vs us)
    (h : ∀ x dx, H x = none → H dx = none → dx ≠ x → sp (.ref x :: (vs ++ dvs)) (upd (upd H dx (.own x)) x (.ins C dx [])) (fun v H2 => v = .non ∧ Q (.ref x) H2) E) :
    wpAny (model X.prog X.w) X.A (call (.ref C) us) (EP X pins σ Q) X.xe s := by
  have hq := h (s.heap.objs.size + 1) s.heap.objs.size (I.hok.fresh (Nat.le_succ _)) (I.hok.fresh (Nat.le_refl _)) (Nat.ne_of_lt (Nat.lt_succ_self _))
  have I2 := Inv.made (C := C) I
  have r2 : Vals (V.ref (s.heap.objs.size + 1) :: (vs ++ dvs)) (Value.ref (s.heap.objs.size + 1) :: (us ++ ds)) := .cons rfl (r.append hd)
  have hl : (Value.ref (s.heap.objs.size + 1) :: us ++ ds).length = ps.length := by
    have e := r2.length
    rw [F.len _ _ _ _ hq] at e
    exact e.symm
  refine wpAny_call (make_map (f := f) I.kIn M.makes M.init (beq_iff_eq.mp M.fn) (codeAny_mono (F.run _ X.stack _ _ ⟨Value.ref (s.heap.objs.size + 1) :: us, []⟩ (Value.ref (s.heap.objs.size + 1) :: (us ++ ds)) _ _ E (hr.make C us [])
    (I2.env0.make C us []) (hb _ (Value.ref (s.heap.objs.size + 1) :: us) I2.kIn hl) r2 hq) fun r s' hq' => ?_))
  cases r with
  | error e => exact hx pins σ _ _ e s' I2 hq'
  | ok fl =>
    cases fl with
    | ret u =>
      obtain ⟨v, H', I3, rv, ev, q3⟩ := I2.after hq'
      subst ev
      exact ⟨rv, ⟨V.ref (s.heap.objs.size + 1), H', I3, rfl, q3⟩⟩
    | next => exact False.elim hq'
    | brk => exact False.elim hq'
    | cont => exact False.elim hq'
theorem pe_make0 (M : Mk X.K C f) (F : FnOk X.prog X.w X.K X.mg X.base CX k f fd ps sp) (hr : Room (k + 1) X.A) (hg : Gl X x) (hm : X.mg x = some (.ref C)) (hb : Binds X.K fd ps ds) (hd : Vals dvs ds) (hx : Passes CX X E)
    (hdb : (x == ("__debug__" : Str)) = false := by decide) : PE X (.Call (.Name x p) [] [] pos) (tMake C sp dvs E tNil) := by
  intro pins s σ H Q I h
  refine wpAny_Call_Name_kw (ld_glob I hg hm ?_ hdb)
  exact PySem.W.callWith_K0 I.kIn M.kp (run_make (us := []) M F hr hb hd hx I .nil h)
end
section
variable {X : Cx} {CX : CXT} {k : Nat} {f C : Addr} {fd : FuncData} {ps ks : List Str} {sp : Sp} {E : XK} {x m : Str} {p pos apos kpos : Pos} {e o : Expr} {es : List Expr} {kws : List Keyword} {te ta : TE} {t tk : TA} {nm : Option Str}
variable {g : List Value → List Value → List Value} {gV : List V → List V → List V}
end
structure FnScope (N P : List Str) (sc : Scope) : Prop where
 kind : sc.kind = .function
 co : sc.isCoroutine = false
 gen : sc.isGenerator = false
 nd : N.Nodup
 pre : N.take P.length = P
 par : ∀ x ∈ P, sc.names.lookup x = some .local ∨ sc.names.lookup x = some .cell
 nofree : ∀ y ∈ sc.names, y.2 ≠ .free
theorem bindL_out {kindOf : Str → Option NameKind} {x : Str} : ∀ {binds : List (Str × Value)} {m : Str → Option Value}, (∀ v, (x, v) ∉ binds) → bindL kindOf binds m x = m x
 | [], _, _ => rfl
 | (n, v) :: r, m, h => by
  unfold bindL
  rw [bindL_out fun w hw => h w (List.mem_cons_of_mem _ hw)]
  split
  · have : x ≠ n := by rintro rfl; exact h v List.mem_cons_self
    simp [this]
  · rfl
theorem bindC_out {kindOf : Str → Option NameKind} {x : Str} : ∀ {binds : List (Str × Value)} {m : Str → Option Value}, (∀ v, (x, v) ∉ binds) → bindC kindOf binds m x = m x
 | [], _, _ => rfl
 | (n, v) :: r, m, h => by
  unfold bindC
  rw [bindC_out fun w hw => h w (List.mem_cons_of_mem _ hw)]
  split
  · rfl
  · have : x ≠ n := by rintro rfl; exact h v List.mem_cons_self
    simp [this]
theorem bindL_get {kindOf : Str → Option NameKind} {x : Str} {v : Value} : ∀ {P : List Str} {vs : List Value} {i : Nat} {m : Str → Option Value}, P.Nodup → P[i]? = some x → vs[i]? = some v → kindOf x = some .local →
    bindL kindOf (P.zip vs) m x = some v
  | [], _, _, _, _, h, _, _ => by simp at h
  | _ :: _, [], _, _, _, _, h, _ => by simp at h
  | p :: P, w :: vs, 0, m, nd, h1, h2, hk => by
    simp at h1 h2; subst h1; subst h2
    show bindL kindOf ((p, w) :: P.zip vs) m p = _
    unfold bindL
    rw [bindL_out fun v hv => (List.nodup_cons.mp nd).1 (List.of_mem_zip hv).1, if_pos hk]
    simp
  | p :: P, w :: vs, i + 1, m, nd, h1, h2, hk => by
    show bindL kindOf ((p, w) :: P.zip vs) m x = _
    unfold bindL
    exact bindL_get (i := i) (List.nodup_cons.mp nd).2 (by simpa using h1) (by simpa using h2) hk
theorem bindC_get {kindOf : Str → Option NameKind} {x : Str} {v : Value} : ∀ {P : List Str} {vs : List Value} {i : Nat} {m : Str → Option Value}, P.Nodup → P[i]? = some x → vs[i]? = some v → kindOf x ≠ some .local →
    bindC kindOf (P.zip vs) m x = some v
  | [], _, _, _, _, h, _, _ => by simp at h
  | _ :: _, [], _, _, _, _, h, _ => by simp at h
  | p :: P, w :: vs, 0, m, nd, h1, h2, hk => by
    simp at h1 h2; subst h1; subst h2
    show bindC kindOf ((p, w) :: P.zip vs) m p = _
    unfold bindC
    rw [bindC_out fun v hv => (List.nodup_cons.mp nd).1 (List.of_mem_zip hv).1, if_neg hk]
    simp
  | p :: P, w :: vs, i + 1, m, nd, h1, h2, hk => by
    show bindC kindOf ((p, w) :: P.zip vs) m x = _
    unfold bindC
    exact bindC_get (i := i) (List.nodup_cons.mp nd).2 (by simpa using h1) (by simpa using h2) hk
noncomputable def start (N : List Str) (vs : List V) : St := vs.map some ++ List.replicate (N.length - vs.length) none
noncomputable def cxOf (CX : CXT) (P : Program) (w : World) (K : PySem.W.Frag) (mg : Str → Option Value) (base : Heap) (N : List Str) (qual : Str) (scope : Scope) (f : Addr) (cd : Value) (A : Around) (outer : List Env) (s : Shared) (H : Hp) (E : XK) : Cx where
 prog := P
 w := w
 K := K
 mg := mg
 base := base
 A := A.deeper (envOfC qual scope s.heap.objs.size f cd)
 N := N
 s₀ := s
 H₀ := H
 env := envOfC qual scope s.heap.objs.size f cd
 outer := outer
 stack := envOfC qual scope s.heap.objs.size f cd :: outer
 ex := []
 calm := true
 fn := fun _ => true
 pn := []
 xe := fun e s' => wpAny (model P w) (A.deeper (envOfC qual scope s.heap.objs.size f cd)) (leaving (envOfC qual scope s.heap.objs.size f cd) e) (fun _ s'' => CX outer H s E e s'') (fun e' s'' => CX outer H s E e' s'') s'
theorem cell_has {sc : Scope} {n : Nat} {x : Str} (h : sc.names.lookup x = some .cell) : ∃ c, (cellsFrom n sc.names []).lookup x = some c := by
 have q := PySem.W.cellsFrom_some sc.names n [] (.inl h)
 exact Option.isSome_iff_exists.mp q
theorem inv_start {CX : CXT} {P : Program} {w : World} {K : PySem.W.Frag} {mg : Str → Option Value} {base : Heap} {N ps : List Str} {qual : Str} {scope : Scope} {f : Addr} {cd : Value} {A : Around} {outer : List Env} {s s1 : Shared} {H : Hp} {E : XK} {us : List Value} {vs : List V}
    (S : FnScope N ps scope) (hd : A.handled = none) (e0 : Env0 P w K mg base A outer s H) (hl : vs.length = ps.length) (r : Vals vs us)
    (x : InCallC s s.heap.objs.size (bindL (envOfC qual scope s.heap.objs.size f cd).kindOf (ps.zip us) fun _ => none) (cellsFrom (s.heap.objs.size + 1) scope.names []) (bindC (envOfC qual scope s.heap.objs.size f cd).kindOf (ps.zip us) fun _ => none) s1) :
    Inv (cxOf CX P w K mg base N qual scope f cd A outer s H E) [] (start N vs) H s1 := by
  have hpl : ps.length ≤ N.length := by have := congrArg List.length S.pre; rw [List.length_take] at this; omega
  obtain ⟨h1, tk, rfl, hk⟩ := x.done
  have noA : ∀ b : Addr, b ∉ (cxOf CX P w K mg base N qual scope f cd A outer s H E).ex := fun b z => absurd (show b ∈ ([] : List Addr) from z) (by simp)
  refine ⟨⟨e0.mod, S.kind, rfl, rfl, Nat.le_refl _, fun y z c h1 h2 => ?_, fun y hy => ?_, fun y c _ h => ?_, fun _ => hd, Around.frames_deeper e0.frames, .inr ⟨rfl, rfl⟩, fun b z => absurd z (noA b), e0.bs, e0.bsz, fun b _ _ => noA b, fun b z => absurd z (noA b), e0.funs, e0.frf⟩,
    rfl, e0.bare, Un.kept hk, ⟨_, x.toInCall.ns, fun i y v h1 h2 h3 => ?_⟩, fun y c h => ⟨_, x.cell y c h⟩, e0.hok.fresh (Nat.le_refl _), fun y c h => ?_, fun p hp => absurd (show p ∈ ([] : List (Addr × Obj)) from hp) (by simp), e0.hok.kept hk, ?_⟩
  · exact name_of_addr x.apart (PySem.mem_of_lookup h1) (PySem.mem_of_lookup h2)
  · have hy : scope.names.lookup y = some .cell ∨ scope.names.lookup y = some .free := hy
    rcases hy with hy | hy
    · exact cell_has hy
    · exact absurd rfl (S.nofree _ (PySem.mem_of_lookup hy))
  · exact Nat.le_of_lt (x.above y c (PySem.mem_of_lookup h))
  · have hi : i < vs.length := by
      unfold start at h2
      by_cases hi : i < vs.length
      · exact hi
      · rw [List.getElem?_append_right (by simpa using hi)] at h2
        rw [List.getElem?_replicate] at h2
        split at h2 <;> cases h2
    have ha : vs[i]? = some v := by
      unfold start at h2
      rw [List.getElem?_append_left (by simpa using hi), List.getElem?_map] at h2
      cases e : vs[i]? with
      | none => rw [e] at h2; cases h2
      | some a => rw [e] at h2; cases h2; rfl
    obtain ⟨u, hu, rv⟩ := r.get ha
    have hp : ps[i]? = some y := by
      rw [← S.pre, List.getElem?_take_of_lt (by omega)]; exact h1
    have ndP : ps.Nodup := by rw [← S.pre]; exact S.nd.sublist (List.take_sublist _ _)
    refine ⟨u, rv, ?_⟩
    rcases S.par y (List.mem_of_getElem? hp) with k | k
    · exact .inl ⟨k, bindL_get ndP hp hu k⟩
    · obtain ⟨c, e⟩ := cell_has (n := s.heap.objs.size + 1) k
      refine .inr ⟨.inl k, c, e, ?_⟩
      have q := x.cell y c e
      rw [bindC_get ndP hp hu (by show scope.names.lookup y ≠ _; rw [k]; decide)] at q
      exact q
  · exact e0.hok.fresh (Nat.le_of_lt (x.above y c (PySem.mem_of_lookup h)))
  · unfold start
    show _ = N.length
    rw [List.length_append, List.length_map, List.length_replicate]
    omega
theorem fn_of {CX : CXT} {P : Program} {w : World} {K : PySem.W.Frag} {mg : Str → Option Value} {base : Heap} {k : Nat} {f : Addr} {name qual : Str} {params : Arguments} {body : List Stmt} {scope : Scope} {dV kV doc pm cdv ct oc : Value} {an od : Option Addr}
    {osl : Array (Option Value)} {N ps : List Str} {sp : Sp} (lk : K.lookup f = some ⟨oc, od, .func (PySem.W.fnOf name qual params body scope dV kV doc pm an cdv ct), osl⟩) (hcd : PySem.W.codeIn K cdv qual = true) (S : FnScope N ps scope)
    (len : ∀ vs H Q E, sp vs H Q E → vs.length = ps.length)
    (hbody : ∀ (A : Around) (outer : List Env) (s : Shared) (H : Hp) (vs : List V) (Q : VK) (E : XK), Room k (A.deeper (envOfC qual scope s.heap.objs.size f cdv)) → sp vs H Q E →
      ∃ t, PSs (cxOf CX P w K mg base N qual scope f cdv A outer s H E) body t ∧ t { nx := fun _ H' => Q .non H', rt := Q } (start N vs) H) :
    FnOk P w K mg base CX (k + 1) f (PySem.W.fnOf name qual params body scope dV kV doc pm an cdv ct) ps sp := by
  refine ⟨len, fun A outer s H args us vs Q E hr e0 hb r hsp => ?_⟩
  have hl := len _ _ _ _ hsp
  have KX : K.In s.heap := e0.mod.kin.keeps fun b o e => (e0.bs b o e).1
  have lim : s.heap.NoLimit := e0.mod.nolimit.keeps fun b o e => (e0.bs b o e).1
  have hkind : ∀ y ∈ ps.zip us, scope.names.lookup y.1 = some .local ∨ (scope.names.lookup y.1 = some .cell ∧ ((cellsFrom (s.heap.objs.size + 1) scope.names []).lookup y.1).isSome = true) := fun ⟨n, v⟩ hy => by
    rcases S.par n (List.of_mem_zip hy).1 with q | q
    · exact .inl q
    · exact .inr ⟨q, PySem.W.cellsFrom_some _ _ _ (.inl q)⟩
  refine codeAny_call_function hr.depth (KX _ _ lk) rfl S.co S.gen rfl (PySem.W.codeRec_of KX hcd) (hb _ _ _ _ ?_)
  refine wpAny_newFunctionEnv_cells S.kind hkind fun env he s1 x => ?_
  subst he
  refine ⟨lim.keeps x.toInCall.keep, codeAny_func ?_⟩
  obtain ⟨t, ht, hq⟩ := hbody A outer s H vs Q E (hr.deeper _) hsp
  have I : Inv (cxOf CX P w K mg base N qual scope f cdv A outer s H E) [] (start N vs) H s1 := inv_start S hr.hd e0 hl r x
  refine wpAny_mono (ht [] s1 (start N vs) H _ I hq) (fun fl s' hs => ?_) fun e s' hs => hs
  have fin : ∀ {σ' : St} {H' : Hp} {v : V} {u : Value}, Inv (cxOf CX P w K mg base N qual scope f cdv A outer s H E) [] σ' H' s' → RelV v u → Q v H' → CE outer P w H s Q u s' :=
    fun {σ' H' v u} J rv q => ⟨v, H', J.os, J.bare, J.base, J.hok, rv, q⟩
  cases fl with
  | ret u =>
    obtain ⟨v, σ', H', J, rv, q⟩ := hs
    exact fin J rv q
  | next =>
    obtain ⟨σ', H', J, q⟩ := hs
    exact fin (v := V.non) (u := Value.none) J rfl q
  | brk =>
    obtain ⟨_, _, _, q⟩ := hs
    exact False.elim q
  | cont =>
    obtain ⟨_, _, _, q⟩ := hs
    exact False.elim q
end L2
namespace L2
open PySem PySem.Spec PyProof.Rows
section
variable {X : Cx} {x : Str} {p pos : Pos} {e : Expr} {es : List Expr} {t : TA} {id T : String} {r : List V → Hp → VK → Prop}
def tCB (r : List V → Hp → VK → Prop) (t : TA) : TE := fun σ H Q => t σ H fun vs H1 => r vs H1 Q
theorem pe_callB (hc : CallR X (.builtin id) r) (hg : Gl X x) (hm : X.mg x = none) (hv : bootBuiltins x = some (.builtin id)) (ha : PA X (e :: es) t) (hn : x ≠ "__name__" := by decide) (hdb : (x == ("__debug__" : Str)) = false := by decide)
    (he : starEach (e :: es) X.env = (false, eval e X.env) :: starEach es X.env := by rfl) (hpl : (backTo pos (starEach es X.env)).any (·.1) = false := by rfl) : PE X (.Call (.Name x p) (e :: es) [] pos) (tCB r t) := by
  intro pins s σ H Q I h
  refine wpAny_Call_Name_kw (ld_blt I hg hm hv ?_ hn hdb)
  exact PyProof.Rows.callWith_builtin1 (thn (ha pos pins s σ H _ I h) fun us s1 ⟨vs, H1, I1, r1, q1⟩ => hc pins s1 σ H1 vs us Q I1 r1 q1) he hpl
theorem pe_callTy (hc : CallR X (.type T) r) (hg : Gl X x) (hm : X.mg x = none) (hv : bootBuiltins x = some (.type T)) (ha : PA X (e :: es) t) (hn : x ≠ "__name__" := by decide) (hdb : (x == ("__debug__" : Str)) = false := by decide)
    (he : starEach (e :: es) X.env = (false, eval e X.env) :: starEach es X.env := by rfl) (hpl : (backTo pos (starEach es X.env)).any (·.1) = false := by rfl) : PE X (.Call (.Name x p) (e :: es) [] pos) (tCB r t) := by
  intro pins s σ H Q I h
  refine wpAny_Call_Name_kw (ld_blt I hg hm hv ?_ hn hdb)
  exact PyProof.Rows.callWith_type1 (thn (ha pos pins s σ H _ I h) fun us s1 ⟨vs, H1, I1, r1, q1⟩ => hc pins s1 σ H1 vs us Q I1 r1 q1) he hpl
end
end L2
namespace HT
open PySem PyProof.Rows
section
open PySem.SeqAt
open PySem.AutoSeq1 (wpAny_loadPart')
open PySem.MeetsSeq PySem.MeetsSeq2 PySem.MeetsSeq3
end
section
variable {prog : Program} {w : World} {A : Around} {E : Value → Shared → Prop} {s : Shared}
noncomputable def sIx (n d : Nat) : Option Int → Nat
 | none => d
 | some v => if v < 0 then (v + (n : Int)).toNat else min v.toNat n
theorem sIx_le (n d : Nat) (hd : d ≤ n) (o : Option Int) : sIx n d o ≤ n := by
 cases o with
 | none => exact hd
 | some v =>
  show (if v < 0 then (v + (n : Int)).toNat else min v.toNat n) ≤ n
  by_cases hv : v < 0
  · rw [if_pos hv]; omega
  · rw [if_neg hv]; exact Nat.min_le_right _ _
theorem clip_eq (v : Int) (n d : Nat) : (if v < 0 then max (v + (n : Int)) 0 else min v (n : Int)) = ((sIx n d (some v) : Nat) : Int) := by
 show (if v < 0 then max (v + (n : Int)) 0 else min v (n : Int)) = (((if v < 0 then (v + (n : Int)).toNat else min v.toNat n) : Nat) : Int)
 by_cases hv : v < 0
 · simp only [if_pos hv]; omega
 · simp only [if_neg hv]; omega
theorem adjust_gen (lo hi : Option Int) (n : Nat) : Builtin.Slice.sliceAdjust lo hi 1 (n : Int) = (((sIx n 0 lo : Nat) : Int), ((sIx n n hi : Nat) : Int)) := by
 have h1 : ¬ ((1 : Int) < 0) := by omega
 unfold Builtin.Slice.sliceAdjust
 simp only [h1, if_false]
 refine Prod.ext ?_ ?_
 · cases lo with
   | none => rfl
   | some v => exact clip_eq v n 0
 · cases hi with
   | none => rfl
   | some v => exact clip_eq v n n
theorem places_gen (i j : Nat) : Builtin.Slice.slicePlaces (i : Int) (j : Int) 1 = j - i := by
 unfold Builtin.Slice.slicePlaces
 have h1 : (1 : Int) > 0 := by omega
 simp only [h1, if_true, Int.ediv_one]
 split <;> omega
theorem slicePart_ {v : Value} {o : Option Int} {Q : Option Int → Shared → Prop} (p : IsPart v o) (h : Q o s) : wpAny (model prog w) A (Builtin.Slice.slicePartIndex v) Q E s := by
 cases p with
 | none => exact slicePart_none h
 | int i t => exact slicePart_int h
theorem sliceApplied_gen {sl : Addr} {vl vu : Value} {lo hi : Option Int} {n : Nat} {Q : Int × Int × Nat → Shared → Prop} (hs : s.heap.IsSliceOf sl vl vu .none) (pl : IsPart vl lo) (pu : IsPart vu hi)
    (h : Q (((sIx n 0 lo : Nat) : Int), 1, sIx n n hi - sIx n 0 lo) s) : wpAny (model prog w) A (Builtin.Slice.sliceApplied (.ref sl) (pure (n : Int))) Q E s := by
  obtain ⟨os, hos, hcs, hds⟩ := id hs
  unfold Builtin.Slice.sliceApplied Builtin.Slice.sliceFields
  refine wpAny_bind (wpAny_bind (wpAny_field hos hds (x := vl) rfl (wpAny_bind (wpAny_field hos hds (x := vu) rfl (wpAny_bind (wpAny_field hos hds (x := .none) rfl (wpAny_pure ?_)))))))
  refine wpAny_bind (slicePart_none ?_)
  show wpAny _ _ (if ((1 : Int) == 0) = true then _ else _) _ _ s
  rw [if_neg (by decide)]
  refine wpAny_bind (slicePart_ pl (wpAny_bind (slicePart_ pu (wpAny_bind (wpAny_pure ?_)))))
  show wpAny _ _ (match Builtin.Slice.sliceAdjust lo hi 1 (n : Int) with | (lo, hi) => pure (lo, (1 : Int), Builtin.Slice.slicePlaces lo hi 1)) _ _ s
  rw [adjust_gen lo hi n]
  show wpAny _ _ (pure (((sIx n 0 lo : Nat) : Int), (1 : Int), Builtin.Slice.slicePlaces ((sIx n 0 lo : Nat) : Int) ((sIx n n hi : Nat) : Int) 1)) _ _ s
  rw [places_gen]
  exact wpAny_pure h
theorem pick_gen (xs : Array Value) (i k : Nat) : ((List.range k).filterMap fun (m : Nat) => xs[((i : Int) + (m : Int) * 1).toNat]?).toArray = ((xs.toList.drop i).take k).toArray := by
 have e : (fun (m : Nat) => xs[((i : Int) + (m : Int) * 1).toNat]?) = fun m => xs[i + m]? := by
  funext m
  have : ((i : Int) + (m : Int) * 1).toNat = i + m := by omega
  rw [this]
 rw [e]
 have := pick_run xs i k
 rw [List.filterMap_map] at this
 have e2 : ((fun x => xs[x]?) ∘ fun x => i + x) = fun m => xs[i + m]? := rfl
 rw [e2] at this
 rw [this]
theorem getItem_tuple_cut {t sl : Addr} {items : Array Value} {vl vu : Value} {lo hi : Option Int} {Q : Value → Shared → Prop} (ht : IsTup s.heap t items) (hs : s.heap.IsSliceOf sl vl vu .none) (pl : IsPart vl lo) (pu : IsPart vu hi)
    (hw : ¬ (sIx items.size 0 lo = 0 ∧ sIx items.size items.size hi = items.size))
    (h : Q (.ref s.heap.objs.size) { s with heap := s.heap.push { cls := .type "tuple", data := .seq ((items.toList.drop (sIx items.size 0 lo)).take (sIx items.size items.size hi - sIx items.size 0 lo)).toArray } })
    (hsz : items.size ≤ sizeLine) : wpAny (model prog w) A (getItem (.ref t) (.ref sl)) Q E s := by
  have htake : sizeOk (.seq ((items.toList.drop (sIx items.size 0 lo)).take (sIx items.size items.size hi - sIx items.size 0 lo)).toArray) := by
    show ((items.toList.drop (sIx items.size 0 lo)).take (sIx items.size items.size hi - sIx items.size 0 lo)).toArray.size ≤ sizeLine
    rw [List.size_toArray, List.length_take, List.length_drop, Array.length_toList]
    omega
  have hj : sIx items.size items.size hi ≤ items.size := sIx_le _ _ (Nat.le_refl _) hi
  obtain ⟨os, hos, hcs, hds⟩ := id hs
  have hTs : s.TypeIs (.ref sl) "slice" := ⟨os, hos, hcs⟩
  unfold getItem
  try with_reducible refine wpAny_holding ?_
  first | refine wpAny_bind (wpAny_pure ?_) | skip
  refine wpAny_bind (wpAny_sequenceKey ht.typeIs (by decide) ?_)
  refine wpAny_bind (wpAny_callSpecial?_slot (name := Str.ofString "__getitem__") ht.typeIs PyProof.Rows.slot_tuple_getitem
    (wpAny_call_entry PyProof.Rows.slot_tuple_getitem ht.typeIs entry_tuple_getitem ?_ (args_tuple_getitem _ _)))
  show wpAny _ _ (Builtin.Tuple.tupleItemsOf (.ref t) >>= _) _ _ s
  refine wpAny_bind (tupleItemsOf_ ht ?_)
  refine wpAny_bind (wpAny_typeOf hTs ?_)
  rw [if_pos (by decide)]
  refine wpAny_bind (sliceApplied_gen hs pl pu ?_)
  have hno : ¬ ((((sIx items.size 0 lo : Nat) : Int) == 0 && (1 : Int) == 1 && (sIx items.size items.size hi - sIx items.size 0 lo) == items.size) = true) := by
    intro q
    rw [Bool.and_eq_true, Bool.and_eq_true] at q
    have q1 : ((sIx items.size 0 lo : Nat) : Int) = 0 := eq_of_beq q.1.1
    have q2 : sIx items.size items.size hi - sIx items.size 0 lo = items.size := eq_of_beq q.2
    exact hw ⟨by omega, by omega⟩
  show wpAny _ _ (if (((sIx items.size 0 lo : Nat) : Int) == 0 && (1 : Int) == 1 && (sIx items.size items.size hi - sIx items.size 0 lo) == items.size) = true then _ else _) _ _ s
  rw [if_neg hno, pick_gen]
  first
    | exact wpAny_bind (m := Builtin.Tuple.tupleExact _) (wpAny_newObj_type (wpAny_pure ⟨_, rfl, wpAny_pure h⟩) htake)
    | exact wpAny_bind (m := Builtin.Tuple.tupleExact _) (wpAny_newObj_type (wpAny_bind (wpAny_pure (wpAny_pure ⟨_, rfl, wpAny_pure h⟩))) htake)
    | exact wpAny_bind (wpAny_bind (m := Builtin.Tuple.tupleExact _) (wpAny_newObj_type (wpAny_pure (wpAny_pure ⟨_, rfl, wpAny_pure h⟩)) htake))
    | exact wpAny_bind (wpAny_bind (m := Builtin.Tuple.tupleExact _) (wpAny_newObj_type (wpAny_pure ⟨_, rfl, wpAny_pure h⟩) htake))
end
end HT
namespace L2
open PySem PySem.Spec PyProof.Rows
abbrev TO := St → Hp → (Option Int → Hp → Prop) → Prop
def PO (X : Cx) (e : Option Expr) (t : TO) : Prop :=
 ∀ (pins : List (Addr × Obj)) (s : Shared) (σ : St) (H : Hp) (Q : Option Int → Hp → Prop), Inv X pins σ H s → t σ H Q →
  wpAny (model X.prog X.w) X.A (evalPart e X.env) (fun u s' => ∃ o H', Inv X pins σ H' s' ∧ IsPart u o ∧ Q o H') X.xe s
noncomputable def tNoPart : TO := fun _ H Q => Q none H
noncomputable def tPart (t : TE) : TO := fun σ H Q => t σ H fun x H1 => ∃ i, x = .int i ∧ Q (some i) H1
section
variable {X : Cx} {e : Expr} {te : TE} {lo hi : Option Expr} {tl th : TO} {pos p2 : Pos}
theorem po_none : PO X none tNoPart := by
 intro pins s σ H Q I h
 rw [evalPart_none]
 exact wpAny_pure ⟨none, H, I, .none, h⟩
theorem po_some (h : PE X e te) : PO X (some e) (tPart te) := by
 intro pins s σ H Q I hw
 rw [evalPart_some]
 refine thn (h pins s σ H _ I hw) fun u s1 ⟨x, H1, I1, r1, q1⟩ => ?_
 obtain ⟨i, rfl, q⟩ := q1
 obtain ⟨t, rfl⟩ := r1
 exact ⟨some i, H1, I1, .int i t, q⟩
def SlR (X : Cx) (r : V → Option Int → Option Int → Hp → VK → Prop) : Prop :=
 ∀ (pins : List (Addr × Obj)) (s : Shared) (σ : St) (H : Hp) (x : V) (v vl vu : Value) (lo hi : Option Int) (sl : Addr) (Q : VK), Inv X pins σ H s → RelV x v → s.heap.IsSliceOf sl vl vu .none → IsPart vl lo → IsPart vu hi → r x lo hi H Q →
  ∃ T id, typeLookup (.type T) "__getitem__" = pure (some (.builtin id)) ∧ s.TypeIs v T ∧ wpAny (model X.prog X.w) X.A (getItem v (.ref sl)) (EP X pins σ Q) X.xe s
theorem SlR.or {r r' : V → Option Int → Option Int → Hp → VK → Prop} (h : SlR X r) (h' : SlR X r') : SlR X (fun x lo hi H Q => r x lo hi H Q ∨ r' x lo hi H Q) := by
 intro pins s σ H x v vl vu lo hi sl Q I rx hs pl pu q
 rcases q with q | q
 · exact h pins s σ H x v vl vu lo hi sl Q I rx hs pl pu q
 · exact h' pins s σ H x v vl vu lo hi sl Q I rx hs pl pu q
def tSl (r : V → Option Int → Option Int → Hp → VK → Prop) (te : TE) (tl th : TO) : TE := fun σ H Q => te σ H fun x H1 => tl σ H1 fun l H2 => th σ H2 fun u H3 => r x l u H3 Q
theorem pe_slice {r : V → Option Int → Option Int → Hp → VK → Prop} (hr : SlR X r) (he : PE X e te) (hl : PO X lo tl) (hu : PO X hi th) : PE X (.Subscript e (.Slice lo hi none p2) pos) (tSl r te tl th) := by
 intro pins s σ H Q I h
 refine Subscript_ (thn (he pins s σ H _ I h) fun v s1 ⟨x, H1, I1, r1, q1⟩ => ?_)
 refine wpAny_Slice (thn (hl pins s1 σ H1 _ I1 q1) fun vl s2 ⟨l, H2, I2, pl, q2⟩ => thn (hu pins s2 σ H2 _ I2 q2) fun vu s3 ⟨u, H3, I3, pu, q3⟩ => ?_)
 rw [evalPart_none]
 refine wpAny_pure ?_
 have I4 : Inv X pins σ H3 { s3 with heap := s3.heap.push { cls := .type "slice", data := .fields #[vl, vu, .none] } } := I3.kept (t' := s3.toks) fun b ob q => Heap.get?_push_of_some _ q
 obtain ⟨T, id, hT, ht, hg⟩ := hr pins { s3 with heap := s3.heap.push { cls := .type "slice", data := .fields #[vl, vu, .none] } } σ H3 x v vl vu l u s3.heap.objs.size Q I4 r1 (Heap.IsSliceOf.new ..) pl pu q3
 show wpAny (model X.prog X.w) X.A (subscriptTail e (.Slice lo hi none p2) v (.ref s3.heap.objs.size)) (EP X pins σ Q) X.xe { s3 with heap := s3.heap.push { cls := .type "slice", data := .fields #[vl, vu, .none] } }
 exact tail_any (ops := [.ref s3.heap.objs.size, v]) ht hT hg (by with_unfolding_all rfl)
noncomputable def cutV (xs : List V) (lo hi : Option Int) : List V := (xs.drop (HT.sIx xs.length 0 lo)).take (HT.sIx xs.length xs.length hi - HT.sIx xs.length 0 lo)
theorem cutV_length (xs : List V) (lo hi : Option Int) : (cutV xs lo hi).length ≤ xs.length := by
 unfold cutV
 rw [List.length_take, List.length_drop]
 omega
def rSlT (K : PySem.W.Frag) : V → Option Int → Option Int → Hp → VK → Prop := fun x lo hi H Q => ∃ a xs, x = .ref a ∧ SqT K H a xs ∧
 ¬ (HT.sIx xs.length 0 lo = 0 ∧ HT.sIx xs.length xs.length hi = xs.length) ∧ ∀ p, H p = none → Q (.ref p) (upd H p (.tup (cutV xs lo hi)))
theorem sl_tup : SlR X (rSlT X.K) := by
 intro pins s σ H x v vl vu lo hi sl Q I rx hs pl pu h
 obtain ⟨a, xs, rfl, hx, hw, q⟩ := h
 cases rx
 obtain ⟨its, r, ht, hz⟩ := I.tuple hx
 have hlen : its.toArray.size = xs.length := by rw [List.size_toArray]; exact r.length.symm
 refine ⟨"tuple", _, PyProof.Rows.slot_tuple_getitem.lookup, ht.typeIs, ?_⟩
 refine HT.getItem_tuple_cut ht hs pl pu (by rw [hlen]; exact hw) ?_ (by rw [hlen]; exact hz)
 rw [hlen]
 refine ⟨.ref s.heap.objs.size, _, I.laid (t' := s.toks) (o := .tup (cutV xs lo hi)) (fun b ob q => Heap.get?_push_of_some _ q) (Nat.le_refl _) ?_, rfl, q _ (I.hok.fresh (Nat.le_refl _))⟩
 exact ⟨Nat.le_trans (cutV_length xs lo hi) hz, _, (r.drop (HT.sIx xs.length 0 lo)).take (HT.sIx xs.length xs.length hi - HT.sIx xs.length 0 lo), IsTup.new _ _⟩
end
end L2
namespace L2
open PySem PySem.Spec PyProof.Rows
noncomputable def ixN (n : Nat) (i : Int) : Option Nat := if 0 ≤ i then (if i < n then some i.toNat else none) else if -(n : Int) ≤ i then some (i + n).toNat else none
def atI {α : Type} (xs : List α) (i : Int) : Option α := (ixN xs.length i).bind fun j => xs[j]?
theorem ixN_seq {n : Nat} {i : Int} {j : Nat} (h : ixN n i = some j) : seqIndex? i n = some j ∧ j < n ∧ -(n : Int) ≤ i ∧ i < n := by
 unfold ixN at h
 by_cases h0 : 0 ≤ i
 · rw [if_pos h0] at h
   by_cases h1 : i < n
   · rw [if_pos h1] at h
     have e : i.toNat = j := Option.some.inj h
     exact ⟨by rw [seqIndex_of h0 h1, e], by omega, by omega, h1⟩
   · rw [if_neg h1] at h; cases h
 · rw [if_neg h0] at h
   by_cases h1 : -(n : Int) ≤ i
   · rw [if_pos h1] at h
     have e : (i + n).toNat = j := Option.some.inj h
     exact ⟨by rw [seqIndex_neg (by omega) h1, e], by omega, h1, by omega⟩
   · rw [if_neg h1] at h; cases h
theorem atI_get {α : Type} {xs : List α} {i : Int} {v : α} (h : atI xs i = some v) : ∃ j, seqIndex? i xs.length = some j ∧ xs[j]? = some v ∧ j < xs.length ∧ -(xs.length : Int) ≤ i ∧ i < xs.length := by
 unfold atI at h
 cases e : ixN xs.length i with
 | none => rw [e] at h; cases h
 | some j =>
  rw [e] at h
  obtain ⟨h1, h2, h3, h4⟩ := ixN_seq e
  exact ⟨j, h1, h, h2, h3, h4⟩
def PlainIx (b : Expr) : Prop := ∀ o i, subscripted b false o i = operate [o, i] (getItem o i)
def IxR (X : Cx) (r : R2) : Prop :=
 ∀ (value slice : Expr) (pins : List (Addr × Obj)) (s : Shared) (σ : St) (H : Hp) (x y : V) (v u : Value) (Q : VK), Inv X pins σ H s → RelV x v → RelV y u → r x y H Q →
  subscripted slice false v u = operate [v, u] (getItem v u) → wpAny (model X.prog X.w) X.A (subscriptTail value slice v u) (EP X pins σ Q) X.xe s
def MtR (X : Cx) (id : String) (r : V → List V → Hp → VK → Prop) : Prop :=
 ∀ (pins : List (Addr × Obj)) (s : Shared) (σ : St) (H : Hp) (x : V) (xs : List V) (v : Value) (us : List Value) (Q : VK), Inv X pins σ H s → RelV x v → Vals xs us → r x xs H Q →
  wpAny (model X.prog X.w) X.A (call (.builtin id) (v :: us)) (EP X pins σ Q) X.xe s
section
variable {X : Cx} {a b : Expr} {ta tb : TE} {pos : Pos}
theorem IxR.or {r r' : R2} (h : IxR X r) (h' : IxR X r') : IxR X (fun x y H Q => r x y H Q ∨ r' x y H Q) := by
 intro value slice pins s σ H x y v u Q I rx ry q hs
 rcases q with q | q
 · exact h value slice pins s σ H x y v u Q I rx ry q hs
 · exact h' value slice pins s σ H x y v u Q I rx ry q hs
theorem pe_ix {r : R2} (hr : IxR X r) (ha : PE X a ta) (hb : PE X b tb) (hs : PlainIx b) : PE X (.Subscript a b pos) (tOp r ta tb) := by
 intro pins s σ H Q I h
 exact Subscript_ (binT ha hb I h fun v u s2 x y H2 I2 rx ry q => hr a b pins s2 σ H2 x y v u Q I2 rx ry q (hs _ _))
noncomputable def rIxL (K : PySem.W.Frag) : R2 := fun x y H Q => ∃ p xs i v, x = .ref p ∧ y = .int i ∧ SqL K H p xs ∧ atI xs i = some v ∧ Q v H
noncomputable def rIxT (K : PySem.W.Frag) : R2 := fun x y H Q => ∃ p xs i v, x = .ref p ∧ y = .int i ∧ SqT K H p xs ∧ atI xs i = some v ∧ Q v H
noncomputable def rIxS : R2 := fun x y H Q => ∃ z i c, x = .str z ∧ y = .int i ∧ z.length ≤ sizeLine ∧ atI z.cps.toList i = some c ∧ Q (.str ⟨#[c]⟩) H
theorem ix_list : IxR X (rIxL X.K) := by
 intro value slice pins s σ H x y v u Q I rx ry h hs
 obtain ⟨p, xs, i, z, rfl, rfl, hq, he, q⟩ := h
 cases rx
 obtain ⟨t, rfl⟩ := ry
 obtain ⟨its, r, pl, hz⟩ := I.list hq
 obtain ⟨j, h1, h2, h3, h4, h5⟩ := atI_get he
 obtain ⟨w, ew, rw'⟩ := r.get h2
 have hl := r.length
 have hn := line63
 have fin : EP X pins σ Q w s := ⟨z, H, I, rw', q⟩
 by_cases h0 : 0 ≤ i
 · have hj : i.toNat = j := by
    rw [seqIndex_of h0 h5] at h1
    exact Option.some.inj h1
   exact item_listR pl.isList h0 (by omega) (by rw [hj]; simpa using ew) fin hs
 · have hj : (i + (its.toArray.size : Int)).toNat = j := by
    rw [seqIndex_neg (by omega) h4] at h1
    rw [List.size_toArray, ← hl]
    exact Option.some.inj h1
   exact subscriptTail_builtinR (x := w) pl.isList.typeIs slot_list_getitem.lookup
    (wpAny_getItem_list_neg (Q := fun r s' => r = w ∧ EP X pins σ Q r s') pl.isList (by omega) (by rw [List.size_toArray] <;> omega) (by omega) (by rw [hj]; simpa using ew) ⟨rfl, fin⟩) hs
theorem ix_tup : IxR X (rIxT X.K) := by
 intro value slice pins s σ H x y v u Q I rx ry h hs
 obtain ⟨p, xs, i, z, rfl, rfl, hq, he, q⟩ := h
 cases rx
 obtain ⟨t, rfl⟩ := ry
 obtain ⟨its, r, pl, hz⟩ := I.tuple hq
 obtain ⟨j, h1, h2, h3, h4, h5⟩ := atI_get he
 obtain ⟨w, ew, rw'⟩ := r.get h2
 have hl := r.length
 have hn := line63
 have fin : EP X pins σ Q w s := ⟨z, H, I, rw', q⟩
 exact subscriptTail_builtinR (x := w) pl.typeIs slot_tuple_getitem.lookup
  (getItem_tuple (j := j) (Q := fun r s' => r = w ∧ EP X pins σ Q r s') pl (by omega) (by omega) (by rw [List.size_toArray, ← hl]; exact h1) (by simpa using ew) ⟨rfl, fin⟩) hs
theorem ix_str : IxR X rIxS := by
 intro value slice pins s σ H x y v u Q I rx ry h hs
 obtain ⟨z, i, c, rfl, rfl, hz, he, q⟩ := h
 obtain ⟨t, rfl⟩ := rx
 obtain ⟨t', rfl⟩ := ry
 obtain ⟨j, h1, h2, h3, h4, h5⟩ := atI_get he
 have hl : z.cps.toList.length = z.length := by simp [Str.length]
 rw [hl] at h1 h4 h5
 have hn := line63
 exact tail_any (typeIs_str s z t) slot_str_getitem.lookup (getItem_str (c := c) (by
  have e1 : decide (i < -(2 ^ 63 : Int)) = false := decide_eq_false (by omega)
  have e2 : decide (i ≥ 2 ^ 63) = false := decide_eq_false (by omega)
  rw [e1, e2, Bool.or_false]) (by rw [h1]; simpa using h2) ⟨.str ⟨#[c]⟩, H, I.tok _, ⟨_, rfl⟩, q⟩) hs
noncomputable def rIx (K : PySem.W.Frag) : R2 := fun x y H Q => rIxL K x y H Q ∨ rIxT K x y H Q ∨ rIxS x y H Q
theorem ix_seq : IxR X (rIx X.K) := ix_list.or (ix_tup.or ix_str)
theorem Inv.lst {pins : List (Addr × Obj)} {σ : St} {H : Hp} {s : Shared} {p : Addr} {xs : List V} (I : Inv X pins σ H s) (h : H p = some (.lst xs)) :
    ∃ (its : List Value) (n : Nat), Vals xs its ∧ s.heap.get? p = some { cls := .type "list", data := .seq its.toArray n } ∧ xs.length ≤ sizeLine := by
  obtain ⟨z, its, n, r, e⟩ := I.hok p _ h
  exact ⟨its, n, r, e, z⟩
theorem slice_bounds (lo hi : Option Int) (n : Nat) : (sliceBounds lo hi none n).1 = ((HT.sIx n 0 lo : Nat) : Int) ∧ (sliceBounds lo hi none n).2.1 = ((HT.sIx n n hi : Nat) : Int) ∧ (sliceBounds lo hi none n).2.2 = 1 := by
 refine ⟨?_, ?_, rfl⟩
 · cases lo with
   | none => simp [sliceBounds, HT.sIx]
   | some i =>
    simp only [sliceBounds, HT.sIx, Option.getD_none, show (1 : Int) > 0 by decide, if_true]
    by_cases h : i < 0
    · simp only [h, if_true] <;> omega
    · simp only [h, if_false] <;> omega
 · cases hi with
   | none => simp [sliceBounds, HT.sIx]
   | some i =>
    simp only [sliceBounds, HT.sIx, Option.getD_none, show (1 : Int) > 0 by decide, if_true]
    by_cases h : i < 0
    · simp only [h, if_true] <;> omega
    · simp only [h, if_false] <;> omega
theorem slicePick_cut (its : List Value) (lo hi : Option Int) : slicePick its.toArray lo hi none = ((its.drop (HT.sIx its.length 0 lo)).take (HT.sIx its.length its.length hi - HT.sIx its.length 0 lo)).toArray := by
 obtain ⟨h1, h2, h3⟩ := slice_bounds lo hi its.toArray.size
 unfold slicePick
 rw [h1, h2, h3]
 simp only [sliceRange_one, pick_run, List.size_toArray] <;> rfl
def rSlL (K : PySem.W.Frag) : V → Option Int → Option Int → Hp → VK → Prop := fun x lo hi H Q => ∃ a xs, x = .ref a ∧ SqL K H a xs ∧ ∀ p, H p = none → Q (.ref p) (upd H p (.lst (cutV xs lo hi)))
theorem sl_list : SlR X (rSlL X.K) := by
 intro pins s σ H x v vl vu lo hi sl Q I rx hs pl pu h
 obtain ⟨a, xs, rfl, hx, q⟩ := h
 cases rx
 obtain ⟨its, r, ht, hz⟩ := I.list hx
 have hlen := r.length
 refine ⟨"list", _, slot_list_getitem.lookup, ht.isList.typeIs, ?_⟩
 refine wpAny_getItem_list_slice ht.isList hs pl pu .none (by simp) ?_ (by rw [List.size_toArray] <;> omega)
 rw [slicePick_cut, ← hlen]
 refine ⟨.ref s.heap.objs.size, _, I.laid (t' := s.toks) (o := .lst (cutV xs lo hi)) (fun b ob q => Heap.get?_push_of_some _ q) (Nat.le_refl _) ?_, rfl, q _ (I.hok.fresh (Nat.le_refl _))⟩
 exact ⟨Nat.le_trans (cutV_length xs lo hi) hz, _, 0, (r.drop (HT.sIx xs.length 0 lo)).take (HT.sIx xs.length xs.length hi - HT.sIx xs.length 0 lo), Heap.get?_push_size _ rfl⟩
noncomputable def eqV : V → V → Bool
 | .non, .non => true
 | .bl a, .bl b => a == b
 | .bl a, .int b => (if a then 1 else 0) == b
 | .int a, .bl b => a == (if b then 1 else 0)
 | .int a, .int b => a == b
 | .str a, .str b => a == b
 | _, _ => false
theorem call_len_seq : CallR X (.builtin "len") (fun xs H Q => ∃ p ys, xs = [.ref p] ∧ (SqL X.K H p ys ∨ SqT X.K H p ys) ∧ Q (.int ys.length) H) := by
 intro pins s σ H xs us Q I r h
 obtain ⟨p, ys, rfl, hq, q⟩ := h
 obtain ⟨u, rfl, rx⟩ := vals1 r
 cases rx
 have hn := line63
 rcases hq with hq | hq
 · obtain ⟨its, r', pl, hz⟩ := I.list hq
   have hlen := r'.length
   exact Calls.call_len_list pl.isList (by simp only [List.size_toArray] <;> omega) ⟨.int ys.length, H, I.tok _, ⟨s.toks + 1, by rw [List.size_toArray, hlen]⟩, q⟩
 · obtain ⟨its, r', pl, hz⟩ := I.tuple hq
   have hlen := r'.length
   exact len_tuple pl (by simp only [List.size_toArray] <;> omega) ⟨.int ys.length, H, I.tok _, ⟨s.toks + 1, by rw [List.size_toArray, hlen]⟩, q⟩
theorem call_len_str : CallR X (.builtin "len") (fun xs H Q => ∃ z, xs = [.str z] ∧ z.length ≤ sizeLine ∧ Q (.int z.length) H) := by
 intro pins s σ H xs us Q I r h
 obtain ⟨z, rfl, hz, q⟩ := h
 obtain ⟨u, rfl, t, rfl⟩ := vals1 r
 have hn := line63
 exact len_str (by omega) ⟨.int z.length, H, I.tok _, ⟨_, rfl⟩, q⟩
theorem CallR.or {f : Value} {r r' : List V → Hp → VK → Prop} (h : CallR X f r) (h' : CallR X f r') : CallR X f (fun xs H Q => r xs H Q ∨ r' xs H Q) := by
 intro pins s σ H xs us Q I rs q
 rcases q with q | q
 · exact h pins s σ H xs us Q I rs q
 · exact h' pins s σ H xs us Q I rs q
theorem call_tuple_of : CallR X (.type "tuple") (fun xs H Q => ∃ p ys, xs = [.ref p] ∧ ((SqL X.K H p ys ∧ ∀ l, H l = none → Q (.ref l) (upd H l (.tup ys))) ∨ (SqT X.K H p ys ∧ Q (.ref p) H))) := by
 intro pins s σ H xs us Q I r h
 obtain ⟨p, ys, rfl, h⟩ := h
 obtain ⟨u, rfl, rx⟩ := vals1 r
 cases rx
 rcases h with ⟨hq, q⟩ | ⟨hq, q⟩
 · obtain ⟨its, r', pl, hz⟩ := I.list hq
   have hlen := r'.length
   refine call_tuple_list pl.isList (fun h' kp => ?_) (by simp only [List.size_toArray] <;> omega)
   have I1 : Inv X pins σ H { s with heap := h' } := I.kept (t' := s.toks) kp
   have I2 : Inv X pins σ (upd H h'.objs.size (.tup ys)) { s with heap := h'.push { cls := .type "tuple", data := .seq its.toArray } } :=
    I1.laid (t' := s.toks) (fun b o e => Heap.get?_push_of_some _ e) (Nat.le_refl _) (show ObjOk X.prog X.w _ _ _ (.tup ys) from ⟨hz, its, r', IsTup.new _ _⟩)
   exact ⟨.ref h'.objs.size, _, I2, rfl, q _ (I1.hok.fresh (Nat.le_refl _))⟩
 · obtain ⟨its, r', pl, hz⟩ := I.tuple hq
   exact call_tuple_same pl ⟨.ref p, H, I, rfl, q⟩
def tyV (K : PySem.W.Frag) (T : String) (x : V) (H : Hp) : Prop := match x with
  | .str _ => T = "str"
  | .int _ => T = "int"
  | .ref p => (T = "list" ∧ ∃ xs, SqL K H p xs) ∨ (T = "tuple" ∧ ∃ o, K.lookup p = some o ∧ o.cls = .type "tuple" ∧ o.dict = none) ∨
      (T = "dict" ∧ ((∃ kvs, H p = some (.dK kvs)) ∨ ∃ kvs, H p = some (.dT kvs))) ∨ (T = "set" ∧ ∃ S n, H p = some (.set S n))
  | _ => False
theorem tyV_is {pins : List (Addr × Obj)} {σ : St} {H : Hp} {s : Shared} {T : String} {x : V} {v : Value} (I : Inv X pins σ H s) (r : RelV x v) (ty : tyV X.K T x H) :
    s.TypeIs v T ∧ ∀ a, v = .ref a → ∃ ob, s.heap.get? a = some ob ∧ ob.dict = none := by
  cases x with
  | str z =>
    obtain ⟨t, rfl⟩ := r
    cases (show T = "str" from ty)
    exact ⟨typeIs_str s z t, fun _ e => nomatch e⟩
  | int i =>
    obtain ⟨t, rfl⟩ := r
    cases (show T = "int" from ty)
    exact ⟨typeIs_int s i t, fun _ e => nomatch e⟩
  | ref p =>
    cases r
    rcases ty with ⟨rfl, xs, hq⟩ | ⟨rfl, o, hk, hc, hd⟩ | ⟨rfl, hk⟩ | ⟨rfl, S, n, hk⟩
    · obtain ⟨its, _, pl, _⟩ := I.list hq
      refine ⟨pl.isList.typeIs, fun a e => ?_⟩
      cases e
      obtain ⟨o, n, e, c, hd, _⟩ := pl
      exact ⟨o, e, hd⟩
    · refine ⟨⟨o, I.kIn p o hk, hc⟩, fun a e => ?_⟩
      cases e
      exact ⟨o, I.kIn _ o hk, hd⟩
    · have z : ∃ o, s.heap.get? p = some o ∧ o.ExactDict := by
        rcases hk with ⟨kvs, hk⟩ | ⟨kvs, hk⟩
        · obtain ⟨_, _, _, _, o, _, _, e, ex, _⟩ := I.hok p _ hk
          exact ⟨o, e, ex⟩
        · obtain ⟨_, _, _, _, o, _, _, e, ex, _⟩ := I.hok p _ hk
          exact ⟨o, e, ex⟩
      obtain ⟨o, e, ex⟩ := z
      refine ⟨⟨o, e, ex.1⟩, fun a e2 => ?_⟩
      cases e2
      exact ⟨o, e, ex.2.1⟩
    · obtain ⟨o, _, _, _, e, ex, _⟩ := I.hok p _ hk
      refine ⟨⟨o, e, ex.1⟩, fun a e2 => ?_⟩
      cases e2
      exact ⟨o, e, ex.2.1⟩
  | _ => exact False.elim ty
def tBM (K : PySem.W.Frag) (T : String) (r : V → List V → Hp → VK → Prop) (to : TE) (t : TA) : TE := fun σ H Q => to σ H fun x H1 => tyV K T x H1 ∧ t σ H1 fun xs H2 => r x xs H2 Q
variable {o e : Expr} {es : List Expr} {to : TE} {t : TA} {name : Str} {apos cpos : Pos} {T id : String} {r : V → List V → Hp → VK → Prop}
theorem pe_bm (pa : PlainAttrs T) (slot : Slot T name id) (hty : typeOf (.builtin id) = pure (.type "method_descriptor")) (hm : MtR X id r) (ho : PE X o to) (ha : PA X (e :: es) t)
    (hbase : attributeBase o name X.env (eval o X.env) = eval o X.env := by rfl)
    (hfew : ((backTo cpos (starEach (e :: es) X.env)).all (fun x => !x.1) && (backToKw cpos (keywordEach [] X.env)).all (fun x => x.1.isSome)
      && decide ((e :: es).length + ([] : List Keyword).length + (if ([] : List Keyword).isEmpty then 0 else 1) < 30)) = true := by rfl)
    (hline : (apos.endLine == cpos.line) = true := by rfl) (hs : starEach (e :: es) X.env = (false, eval e X.env) :: starEach es X.env := by rfl) (hplain : (backTo cpos (starEach es X.env)).any (·.1) = false := by rfl) :
    PE X (.Call (.Attribute o name apos) (e :: es) [] cpos) (tBM X.K T r to t) := by
  intro pins s σ H Q I h
  refine wpAny_Call_method_late hbase hfew hline rfl (thn (ho pins s σ H _ I h) fun v s1 ⟨x, H1, I1, r1, ty, q1⟩ => ?_)
  obtain ⟨h1, h2⟩ := tyV_is I1 r1 ty
  refine ⟨T, id, pa, slot, hty, h1, h2, ?_⟩
  have hA := ha cpos pins s1 σ H1 _ I1 q1
  rw [hs] at hA ⊢
  refine Calls.callWith_builtin (by show (false || (backTo cpos (starEach es X.env)).any (·.1)) = false; rw [hplain] <;> rfl) (Calls.evalArgs_plain ?_)
  exact thn hA fun us s2 ⟨vs, H2, I2, r2, q2⟩ => hm pins s2 σ H2 x vs v us Q I2 r1 r2 q2
end
end L2
namespace L2
open PySem PySem.Spec PyProof.Rows
def MtM (X : Cx) (id : String) (r : V → List V → Hp → VK → Prop) : Prop :=
 ∀ (pins : List (Addr × Obj)) (s : Shared) (σ : St) (H : Hp) (x : V) (xs : List V) (v : Value) (us : List Value) (Q : VK), Inv X pins σ H s → RelV x v → Vals xs us → r x xs H Q →
  wpAny (model X.prog X.w) X.A (call (.builtin id) (v :: us)) (EP X pins σ Q) X.xe s
theorem Vals.one : ∀ {x : V} {us : List Value}, Vals [x] us → ∃ u, us = [u] ∧ RelV x u
 | _, _, .cons r .nil => ⟨_, rfl, r⟩
theorem Vals.eraseIdx : ∀ {xs : List V} {us : List Value} (i : Nat), Vals xs us → Vals (xs.eraseIdx i) (us.eraseIdx i)
 | _, _, _, .nil => .nil
 | _, _, 0, .cons _ t => t
 | _, _, i + 1, .cons r t => .cons r (Vals.eraseIdx i t)
theorem len_erase {α : Type} : ∀ (l : List α) (i : Nat), (l.eraseIdx i).length ≤ l.length
 | [], _ => Nat.le_refl _
 | _ :: _, 0 => Nat.le_succ _
 | _ :: r, i + 1 => Nat.succ_le_succ (len_erase r i)
section
variable {X : Cx} {pins : List (Addr × Obj)} {σ : St} {H : Hp} {s : Shared} {l b : Addr} {xs ys zs : List V}
theorem Inv.lset {its its' : List Value} {n : Nat} {f : Array Value → Array Value} {t' : Nat} (I : Inv X pins σ H s) (hH : H l = some (.lst xs))
    (e : s.heap.get? l = some { cls := .type "list", data := .seq its.toArray n }) (hf : f its.toArray = its'.toArray) (hv : Vals ys its') (hz : ys.length ≤ sizeLine) :
    Inv X pins σ (upd H l (.lst ys)) { s with heap := s.heap.update l (Obj.mapSeq f), toks := t' } := by
  have q := PySem.IsL.update e f
  rw [hf] at q
  refine I.write (x := l) (e := l) (by rw [hH]; exact trivial) (.inl rfl) (fun b' u hb hu => (Heap.get?_update_other s.heap (Obj.mapSeq f) (Ne.symm hb)).trans hu) ⟨_, q⟩ ?_
  exact ⟨hz, its', _, hv, q⟩
theorem Inv.lnew {its : List Value} {t' : Nat} (I : Inv X pins σ H s) (hv : Vals ys its) (hz : ys.length ≤ sizeLine) :
    Inv X pins σ (upd H s.heap.objs.size (.lst ys)) { s with heap := s.heap.push { cls := .type "list", data := .seq its.toArray }, toks := t' } :=
  I.laid (fun _ _ q => Heap.get?_push_of_some _ q) (Nat.le_refl _) ⟨hz, its, 0, hv, Heap.get?_push_size _ rfl⟩
theorem Inv.fresh (I : Inv X pins σ H s) : H s.heap.objs.size = none := I.hok.fresh (Nat.le_refl _)
theorem Inv.lstM (I : Inv X pins σ H s) (hH : H l = some (.lst xs)) : xs.length ≤ sizeLine ∧ ∃ (its : List Value) (n : Nat), Vals xs its ∧ xs.length = its.length ∧ s.heap.get? l = some { cls := .type "list", data := .seq its.toArray n } := by
 obtain ⟨z, its, n, r, e⟩ := I.hok l _ hH
 exact ⟨z, its, n, r, r.length, e⟩
end
section
variable {X : Cx}
def rAppend : V → List V → Hp → VK → Prop := fun x vs H Q => ∃ l xs y, x = .ref l ∧ vs = [y] ∧ H l = some (.lst xs) ∧ xs.length < sizeLine ∧ Q .non (upd H l (.lst (xs ++ [y])))
theorem mt_append : MtM X "list.append" rAppend := by
 intro pins s σ H x vs v us Q I rx rv h
 obtain ⟨l, xs, y, rfl, rfl, hH, hz, q⟩ := h
 cases rx
 obtain ⟨u, rfl, ru⟩ := rv.one
 obtain ⟨z, its, n, r, hl, e⟩ := I.lstM hH
 refine call_meets F.slot_list_append ⟨_, e, rfl⟩ F.entry_list_append (F.args_list_append_2 _ _) (PySem.list_append l its.toArray n u (by rw [List.size_toArray]; omega)) ⟨e, ?_⟩
 refine ⟨.non, _, I.lset (its' := its ++ [u]) hH e (by simp) (r.append (.cons ru .nil)) ?_, rfl, q⟩
 rw [List.length_append, List.length_singleton]
 omega
def rPopAt : V → List V → Hp → VK → Prop := fun x vs H Q => ∃ l xs i k y, x = .ref l ∧ vs = [.int i] ∧ H l = some (.lst xs) ∧ -(2 ^ 63) ≤ i ∧ i < 2 ^ 63 ∧ seqIndex? i xs.length = some k ∧ xs[k]? = some y ∧ Q y (upd H l (.lst (xs.eraseIdx k)))
theorem mt_popAt : MtM X "list.pop" rPopAt := by
 intro pins s σ H x vs v us Q I rx rv h
 obtain ⟨l, xs, i, k, y, rfl, rfl, hH, h1, h2, hk, hy, q⟩ := h
 cases rx
 obtain ⟨u, rfl, ru⟩ := rv.one
 obtain ⟨t, rfl⟩ := ru
 obtain ⟨z, its, n, r, hl, e⟩ := I.lstM hH
 obtain ⟨w, hw, rw'⟩ := r.get hy
 refine call_meets F.slot_list_pop ⟨_, e, rfl⟩ F.entry_list_pop (F.args_list_pop_2 _ _)
  (MeetsSeq.list_pop_at l its.toArray n i t k w (fitsIndex_both h1 h2) (by rw [List.size_toArray, ← hl]; exact hk) (by rw [← Array.getElem?_toList]; exact hw) (by rw [List.size_toArray]; omega)) ⟨e, ?_⟩
 refine ⟨y, _, I.lset (its' := its.eraseIdx k) hH e ?_ (r.eraseIdx k) ?_, rw', q⟩
 · show its.toArray.eraseIdxIfInBounds k = (its.eraseIdx k).toArray
   rw [List.eraseIdxIfInBounds_toArray]
 · have := len_erase xs k
   omega
noncomputable def rCat : R2 := fun x y H Q => ∃ l b xs zs, x = .ref l ∧ y = .ref b ∧ H l = some (.lst xs) ∧ H b = some (.lst zs) ∧ xs.length + zs.length ≤ sizeLine ∧ ∀ p, H p = none → Q (.ref p) (upd H p (.lst (xs ++ zs)))
theorem op_cat : OpR X (binaryOp .Add) rCat := by
 intro pins s σ H x y v u Q I rx ry h
 obtain ⟨l, b, xs, zs, rfl, rfl, hH, hB, hz, q⟩ := h
 cases rx
 cases ry
 obtain ⟨z, its, n, r, hl, e⟩ := I.lstM hH
 obtain ⟨z2, its2, n2, r2, hl2, e2⟩ := I.lstM hB
 refine PySem.P.add_list e e2 ?_ (by rw [List.size_toArray, List.size_toArray]; omega)
 have ea : its.toArray ++ its2.toArray = (its ++ its2).toArray := by simp
 rw [ea]
 exact ⟨.ref _, _, I.lnew (t' := s.toks) (r.append r2) (by rw [List.length_append]; omega), rfl, q _ I.fresh⟩
end
section
variable {prog : Program} {w : World} {A : Around} {E : Value → Shared → Prop} {s : Shared}
end
section
variable {X : Cx}
end
end L2
namespace L2
open PySem PySem.Spec PyProof.Rows
section
variable {κ : Type} [DecidableEq κ]
noncomputable def valV (kvs : List (κ × V)) (k : κ) : Option V := (kvs.find? fun kv => decide (kv.1 = k)).map (·.2)
noncomputable def putK (kvs : List (κ × V)) (k : κ) (v : V) : List (κ × V) :=
 if (kvs.any fun kv => decide (kv.1 = k)) = true then kvs.map (fun kv => if kv.1 = k then (kv.1, v) else kv) else kvs ++ [(k, v)]
noncomputable def dropK (kvs : List (κ × V)) (k : κ) : List (κ × V) := kvs.filter fun kv => decide (kv.1 ≠ k)
theorem valV_pos {p : κ × V} {r : List (κ × V)} {k : κ} (e : p.1 = k) : valV (p :: r) k = some p.2 := by simp [valV, List.find?_cons, e]
theorem valV_neg {p : κ × V} {r : List (κ × V)} {k : κ} (e : ¬ p.1 = k) : valV (p :: r) k = valV r k := by simp [valV, List.find?_cons, e]
theorem valV_any (k : κ) : ∀ kvs : List (κ × V), (kvs.any fun kv => decide (kv.1 = k)) = (valV kvs k).isSome
 | [] => rfl
 | p :: r => by
  rw [List.any_cons]
  by_cases e : p.1 = k
  · simp only [valV_pos e, decide_eq_true e, Bool.true_or, Option.isSome_some]
  · rw [valV_neg e, decide_eq_false e, Bool.false_or]; exact valV_any k r
theorem RelO.isSome_eq {o : Option V} {u : Option Value} (r : RelO o u) : o.isSome = u.isSome := by
 cases o with
 | none => cases u with
  | none => rfl
  | some _ => exact (show False from r).elim
 | some _ => cases u with
  | none => exact (show False from r).elim
  | some _ => rfl
theorem KV.val {kvs : List (κ × V)} {vs : List (κ × Value)} (r : KV kvs vs) (k : κ) : RelO (valV kvs k) (valueAt vs k) := by
 unfold KV at r
 induction r with
 | nil => exact True.intro
 | @cons p q ps qs h t ih =>
  obtain ⟨h1, h2⟩ := h
  by_cases e : p.1 = k
  · have e' : q.1 = k := h1.symm.trans e
    have b : valueAt (q :: qs) k = some q.2 := by simp [valueAt, List.find?_cons, e']
    rw [valV_pos e, b]; exact h2
  · have e' : ¬ q.1 = k := fun z => e (h1.trans z)
    have b : valueAt (q :: qs) k = valueAt qs k := by simp [valueAt, List.find?_cons, e']
    rw [valV_neg e, b]; exact ih
theorem KV.any {kvs : List (κ × V)} {vs : List (κ × Value)} (r : KV kvs vs) (k : κ) : (kvs.any fun kv => decide (kv.1 = k)) = vs.any fun kv => decide (kv.1 = k) := by
 unfold KV at r
 induction r with
 | nil => rfl
 | cons h t ih => rw [List.any_cons, List.any_cons, ih, h.1]
theorem KV.repl {kvs : List (κ × V)} {vs : List (κ × Value)} (r : KV kvs vs) (k : κ) {y : V} {u : Value} (ry : RelV y u) :
    KV (kvs.map fun kv => if kv.1 = k then (kv.1, y) else kv) (vs.map fun kv => if kv.1 = k then (kv.1, u) else kv) := by
  unfold KV at r ⊢
  induction r with
  | nil => exact .nil
  | @cons p q ps qs h t ih =>
    rw [List.map_cons, List.map_cons]
    refine .cons ?_ ih
    obtain ⟨h1, h2⟩ := h
    by_cases e : p.1 = k
    · rw [if_pos e, if_pos (h1.symm.trans e)]; exact ⟨h1, ry⟩
    · rw [if_neg e, if_neg (fun z => e (h1.trans z))]; exact ⟨h1, h2⟩
theorem KV.put {kvs : List (κ × V)} {vs : List (κ × Value)} (r : KV kvs vs) (k : κ) {y : V} {u : Value} (ry : RelV y u) : KV (putK kvs k y) (stored vs k u) := by
 unfold putK stored
 rw [r.any k]
 by_cases e : (vs.any fun kv => decide (kv.1 = k)) = true
 · rw [if_pos e, if_pos e]; exact r.repl k ry
 · rw [if_neg e, if_neg e]; exact Paired.snoc r ⟨rfl, ry⟩
theorem KV.drop {kvs : List (κ × V)} {vs : List (κ × Value)} (r : KV kvs vs) (k : κ) : KV (dropK kvs k) (without vs k) := by
 unfold KV at r ⊢
 unfold dropK without
 induction r with
 | nil => exact .nil
 | @cons p q ps qs h t ih =>
  obtain ⟨h1, h2⟩ := h
  rw [List.filter_cons, List.filter_cons]
  by_cases e : p.1 = k
  · have a : ¬ decide (p.1 ≠ k) = true := by simp [e]
    have b : ¬ decide (q.1 ≠ k) = true := by simp [h1.symm.trans e]
    rw [if_neg a, if_neg b]; exact ih
  · have e' : ¬ q.1 = k := fun z => e (h1.trans z)
    have a : decide (p.1 ≠ k) = true := by simp [e]
    have b : decide (q.1 ≠ k) = true := by simp [e']
    rw [if_pos a, if_pos b]; exact .cons ⟨h1, h2⟩ ih
theorem KV.length {kvs : List (κ × V)} {vs : List (κ × Value)} (r : KV kvs vs) : kvs.length = vs.length := Paired.length r
end
theorem kV_is {P : Program} {w : World} {k : Key} {u : Value} (r : RelV (kV k) u) : (mixKind P w).is k u = true := by
 cases k with
 | inl i => obtain ⟨t, e⟩ := (show ∃ t, u = Value.int i t from r); subst e; exact mixKind_int P w i t
 | inr x => obtain ⟨t, e⟩ := (show ∃ t, u = Value.str x t from r); subst e; exact mixKind_str P w x t
theorem items_are {P : Program} {w : World} : ∀ {ks : List Key} {us : List Value}, Vals (ks.map kV) us → ItemsAre (mixKind P w) ks us
 | [], _, r => by rw [List.map_nil] at r; cases r; exact .nil
 | k :: ks, _, r => by
  rw [List.map_cons] at r
  cases r with
  | cons h t => exact .cons (kV_is h) (items_are t)
abbrev KT (H : Hp) : List (List Key × V) → List (List Key × Addr × Value) → Prop := Paired fun p q => p.1 = q.1 ∧ H q.2.1 = some (.tup (p.1.map kV)) ∧ RelV p.2 q.2.2
theorem KT.val {H : Hp} {kvs : List (List Key × V)} {xs : List (List Key × Addr × Value)} (r : KT H kvs xs) (k : List Key) : RelO (valV kvs k) ((atKey xs k).map (·.2)) := by
 induction r with
 | nil => exact True.intro
 | @cons p q ps qs h t ih =>
  obtain ⟨h1, _, h2⟩ := h
  by_cases e : p.1 = k
  · have e' : q.1 = k := h1.symm.trans e
    have b : atKey (q :: qs) k = some q.2 := by simp [atKey, List.find?_cons, e']
    rw [valV_pos e, b]; exact h2
  · have e' : ¬ q.1 = k := fun z => e (h1.trans z)
    have b : atKey (q :: qs) k = atKey qs k := by simp [atKey, List.find?_cons, e']
    rw [valV_neg e, b]; exact ih
theorem KT.repl {H : Hp} {kvs : List (List Key × V)} {xs : List (List Key × Addr × Value)} (r : KT H kvs xs) (k : List Key) {y : V} {u : Value} (ry : RelV y u) :
    KT H (kvs.map fun kv => if kv.1 = k then (kv.1, y) else kv) (xs.map (putAt k u)) := by
  induction r with
  | nil => exact .nil
  | @cons p q ps qs h t ih =>
    rw [List.map_cons, List.map_cons]
    refine .cons ?_ ih
    obtain ⟨h1, h2, h3⟩ := h
    unfold putAt
    by_cases e : p.1 = k
    · rw [if_pos e, if_pos (h1.symm.trans e)]; exact ⟨h1, h2, ry⟩
    · rw [if_neg e, if_neg (fun z => e (h1.trans z))]; exact ⟨h1, h2, h3⟩
theorem KT.put {H : Hp} {kvs : List (List Key × V)} {xs : List (List Key × Addr × Value)} (r : KT H kvs xs) (k : List Key) {b : Addr} {y : V} {u : Value} (hb : H b = some (.tup (k.map kV))) (ry : RelV y u) :
    KT H (putK kvs k y) (storedH xs k b u) := by
  have e : (kvs.any fun kv => decide (kv.1 = k)) = (atKey xs k).isSome := by
    rw [valV_any, (r.val k).isSome_eq, Option.isSome_map]
  unfold putK storedH
  rw [e]
  by_cases q : (atKey xs k).isSome = true
  · rw [if_pos q, if_pos q]; exact r.repl k ry
  · rw [if_neg q, if_neg q]; exact Paired.snoc r ⟨rfl, hb, ry⟩
theorem KT.keeps {H H' : Hp} {kvs : List (List Key × V)} {xs : List (List Key × Addr × Value)} (r : KT H kvs xs) (ht : ∀ b ys, H b = some (.tup ys) → H' b = some (.tup ys)) : KT H' kvs xs :=
 Paired.mapP r fun _ _ z => ⟨z.1, ht _ _ z.2.1, z.2.2⟩
section
variable {P : Program} {w : World} {H : Hp} {h : Heap} {a : Addr}
theorem key_of {ks : List Key} (ok : HOk P w H h) (e : H a = some (.tup (ks.map kV))) : (tupleKind (mixKind P w)).is h ks a := by
 obtain ⟨_, its, r, o, h1, h2, n, h3⟩ := (show ObjOk P w H h a (.tup (ks.map kV)) from ok a _ e)
 exact ⟨o, its.toArray, n, h1, h2, h3, by simpa using items_are r⟩
end
def DGet (H : Hp) (a : Addr) (y : V) (r : Option V) : Prop :=
 (∃ kvs k, Rd H a (.dK kvs) ∧ y = kV k ∧ r = valV kvs k) ∨ ∃ kvs k b, Rd H a (.dT kvs) ∧ y = .ref b ∧ H b = some (.tup (k.map kV)) ∧ r = valV kvs k
def DPut (H : Hp) (a : Addr) (y v : V) (H' : Hp) : Prop :=
 (∃ kvs k, H a = some (.dK kvs) ∧ y = kV k ∧ kvs.length < sizeLine ∧ H' = upd H a (.dK (putK kvs k v))) ∨
 ∃ kvs k b, H a = some (.dT kvs) ∧ y = .ref b ∧ H b = some (.tup (k.map kV)) ∧ kvs.length < sizeLine ∧ H' = upd H a (.dT (putK kvs k v))
theorem DGet.k {H : Hp} {a : Addr} {kvs : List (Key × V)} {k : Key} (e : H a = some (.dK kvs)) : DGet H a (kV k) (valV kvs k) := .inl ⟨kvs, k, .inl e, rfl, rfl⟩
theorem DGet.t {H : Hp} {a b : Addr} {kvs : List (List Key × V)} {k : List Key} (e : H a = some (.dT kvs)) (eb : H b = some (.tup (k.map kV))) : DGet H a (.ref b) (valV kvs k) := .inr ⟨kvs, k, b, .inl e, rfl, eb, rfl⟩
theorem DPut.k {H : Hp} {a : Addr} {kvs : List (Key × V)} {k : Key} {v : V} (e : H a = some (.dK kvs)) (hl : kvs.length < sizeLine) : DPut H a (kV k) v (upd H a (.dK (putK kvs k v))) := .inl ⟨kvs, k, e, rfl, hl, rfl⟩
theorem DPut.t {H : Hp} {a b : Addr} {kvs : List (List Key × V)} {k : List Key} {v : V} (e : H a = some (.dT kvs)) (eb : H b = some (.tup (k.map kV))) (hl : kvs.length < sizeLine) :
    DPut H a (.ref b) v (upd H a (.dT (putK kvs k v))) := .inr ⟨kvs, k, b, e, rfl, eb, hl, rfl⟩
section
variable {X : Cx} {pins : List (Addr × Obj)} {σ : St} {H : Hp} {s : Shared} {a : Addr} {y v : V} {u r : Value} {o : Option V} {A : Around} {E : Value → Shared → Prop}
theorem Inv.big (I : Inv X pins σ H s) : sysModules < s.heap.objs.size := by
 have h : mainGlobals < s.heap.objs.size := (I.mod.glob.keeps I.bk).lt
 exact Nat.lt_trans (by decide) h
theorem d_write {h' : Heap} {t' : Nat} {ob : HO} (I : Inv X pins σ H s) (mu : Mut (H a)) (hs : Heap.SameBut a s.heap h') (he : ∃ q, h'.get? a = some q) (new : ObjOk X.prog X.w (upd H a ob) h' a ob) :
    Inv X pins σ (upd H a ob) { s with heap := h', toks := t' } :=
  I.write (x := a) (e := a) mu (.inl rfl) (fun b q hb z => (hs.2 b hb).trans z) he new
end
section
variable {X : Cx} {pins : List (Addr × Obj)} {σ : St} {H : Hp} {s : Shared} {a : Addr} {kvs : List (Key × V)} {k : Key} {u : Value} {A : Around} {E : Value → Shared → Prop}
end
section
variable {X : Cx} {o i e value : Expr} {pos pos' tpos : Pos} {td ty tv : TE}
end
section
variable {X : Cx} {pos : Pos}
end
structure M1 (X : Cx) (o : Expr) (m : Str) (apos : Pos) (e : Expr) (cpos : Pos) : Prop where
 base : attributeBase o m X.env (eval o X.env) = eval o X.env
 few : ((backTo cpos (starEach [e] X.env)).all (fun x => !x.1) && (backToKw cpos (keywordEach [] X.env)).all (fun x => x.1.isSome)
  && decide (([e] : List Expr).length + ([] : List Keyword).length + (if ([] : List Keyword).isEmpty then 0 else 1) < 30)) = true
 line : (apos.endLine == cpos.line) = true
 trees : backTo cpos (starEach [e] X.env) = [(false, eval e X.env)]
structure M2 (X : Cx) (o : Expr) (m : Str) (apos : Pos) (e f : Expr) (cpos : Pos) : Prop where
 base : attributeBase o m X.env (eval o X.env) = eval o X.env
 few : ((backTo cpos (starEach [e, f] X.env)).all (fun x => !x.1) && (backToKw cpos (keywordEach [] X.env)).all (fun x => x.1.isSome)
  && decide (([e, f] : List Expr).length + ([] : List Keyword).length + (if ([] : List Keyword).isEmpty then 0 else 1) < 30)) = true
 line : (apos.endLine == cpos.line) = true
 trees : backTo cpos (starEach [e, f] X.env) = [(false, eval e X.env), (false, eval f X.env)]
section
variable {X : Cx} {pins : List (Addr × Obj)} {σ : St} {H : Hp} {s : Shared} {a : Addr} {y d : V} {u r : Value} {o : Option V} {A : Around} {E : Value → Shared → Prop}
end
section
variable {X : Cx} {o e f : Expr} {apos cpos : Pos} {td ty tx : TE}
end
section
variable {X : Cx} {pins : List (Addr × Obj)} {σ : St} {H : Hp} {s : Shared} {a : Addr} {kvs : List (Key × V)} {A : Around} {E : Value → Shared → Prop}
end
section
variable {X : Cx} {pins : List (Addr × Obj)} {σ : St} {H : Hp} {s : Shared} {a : Addr} {y : V} {u : Value} {A : Around} {E : Value → Shared → Prop}
end
end L2
namespace Att
open PySem PySem.W PySem.Calls PyProof.Rows
theorem ints_of_wellAll {P : Params} {h : Heap} : ∀ (ns : List Int) (vs : List Value), WellAll P h vs (ns.map WData.int) → IntsAre vs ns := by
 intro ns
 induction ns with
 | nil =>
  intro vs w
  rw [List.map_nil] at w
  cases w
  exact .nil
 | cons n ns ih =>
  intro vs w
  rw [List.map_cons] at w
  cases w with
  | cons a b =>
   cases a
   exact .cons _ _ (ih _ b)
theorem script_of {l : OpenLaw} {n : Nat} (hn : l.most = some n) {P : Params} {h : Heap} {args : List WData} {vals : List Value}
    (hpre : l.row.toRowW.claim.pre args = true) (hwl : WellAll P h vals args) :
    ∃ a vs ns, vals = [Value.ref a] ∧ args = [WData.list (ns.map WData.int)] ∧ h.get? a = some { cls := .type "list", data := .seq vs.toArray } ∧ IntsAre vs ns ∧ ns.length ≤ n := by
  have hsh : WShape.hasAll [] args [.list .int] = true := (pre_splitW hpre).1
  have hc : l.pre.holds [] { args := args } = true := (pre_splitW hpre).2
  obtain ⟨d, r, rfl, h1, h2⟩ := hasAllW_cons hsh
  obtain rfl := hasAllW_nil h2
  obtain ⟨xs, rfl, h3⟩ := hasW_list h1
  obtain ⟨ns, rfl⟩ := items_int h3
  have hlen : ns.length ≤ n := by
    unfold OpenLaw.pre at hc
    have h4 : (WTm.not (.lt (.lit (.int (n : Int))) (.len (.arg 0)))).holds [] { args := [.list (ns.map .int)] } = true := by
      have h4 := (holds_andW hc).1
      rw [hn] at h4
      exact h4
    have h5 := condW_of h4 (w_not (w_lt w_lit (w_len_list (w_arg rfl))))
    rw [List.length_map] at h5
    refine Nat.le_of_not_lt fun q => ?_
    have q' : (n : Int) < ((ns.length : Nat) : Int) := by omega
    first
      | (rw [decide_eq_true q'] at h5; exact absurd h5 (by decide))
      | (simp at h5; omega)
  cases hwl with
  | cons w1 w2 =>
    cases w2
    cases w1 with
    | list ho hall => exact ⟨_, _, ns, rfl, rfl, ho, ints_of_wellAll ns _ hall, hlen⟩
theorem post_true (l : OpenLaw) (args : List WData) : l.row.toRowW.claim.post args (.bool true) args = true :=
 postW_of (r := l.row.toRowW) (X := (true == true))
  (show WShape.has [] (.bool true) .bool = true by first | rfl | decide | simp [WShape.has, WShape.arms, WShape.armsAll])
  (show (WTm.eq .res (.lit (.bool true))).value [] { args := args, res := some (.bool true), after := args } = some (.bool (true == true)) from w_eq_bool (w_res rfl) w_lit) rfl
theorem attach_call {l : OpenLaw} {n : Nat} {q : Program} {loose : List Str} {XP : (Str → Option Value) → Heap → Prop} {YP : World → Heap → Prop} {d : DefRec}
    (hn : l.most = some n) (hdf : d.params.defaults = [])
    (call : ∀ (w : World) (s₀ s₁ : Shared) (mg mb : Str → Option Value) (fa : Addr) (o : Obj) (pm cd doc : Value) (a : Addr) (vs : List Value) (ns : List Int),
      Ground q loose [] XP w s₀ mg mb s₁.heap → YP w s₁.heap →
      s₁.heap.get? fa = some o → o.data = .func (docDef d.name d.params d.body d.scope pm cd doc) → s₁.heap.CodeRec cd d.name → mg d.name = some (.ref fa) →
      s₁.heap.get? a = some { cls := .type "list", data := .seq vs.toArray } → IntsAre vs ns → ns.length ≤ n → s₁.gens = #[] →
      codeAny (model l.prog w) callerA (.call (.ref fa) ⟨[.ref a], []⟩) (fun r s' => r = .ok (.ret (.bool true)) ∧ OldK s₁.heap s'.heap ∧ s'.os = s₁.os ∧ AllBare s'.gens) s₁) :
    WalkO q loose XP YP l.row.toRowW d [] (fun f vs => PySem.call f vs) := by
  intro w s₀ s₁ mg mb G Y fa o pm cd doc dV kV ho hd hcd hD hmg hg args vals as hpre hlay hrd hwl hlo
  obtain rfl : dV = .none := Dflts.none hD hdf
  obtain rfl : kV = .none := Dflts.noKw hD
  obtain ⟨a, vs, ns, rfl, rfl, hobj, hints, hlen⟩ := script_of hn hpre hwl
  refine enter_call (codeAny_mono (call w s₀ s₁ mg mb fa o pm cd doc a vs ns G Y ho (fd_plain hd) hcd hmg hobj hints hlen hg) fun r s' hq => ?_)
  obtain ⟨rfl, h2, h3, h4⟩ := hq
  exact ⟨.inl ⟨.bool true, .bool true, [], rfl, fun _ => rfl, .bool true, post_true l _, fun _ => ⟨List.Pairwise.nil, fun _ hm => (nomatch hm)⟩⟩, h2, h3, h4⟩
section
variable {prog : Program} {w : World} {A : Around} {E : Value → Shared → Prop} {s : Shared} {K : Frag}
end
end Att
namespace L2
open PySem PySem.Spec PyProof.Rows
theorem vals_ints : ∀ {vs : List Value} {ns : List Int}, IntsAre vs ns → Vals (ns.map V.int) vs
 | _, _, .nil => .nil
 | _, _, .cons n t h => .cons ⟨t, rfl⟩ (vals_ints h)
def Only (H : Hp) : Prop := ∀ b, H b = none ∨ ∃ o xs, H b = some (.frz o (.lst xs))
theorem law_call {P : Program} {w : World} {K : PySem.W.Frag} {mg mb : Str → Option Value} {CX : CXT} {k : Nat} {fa a : Addr} {fd : FuncData} {x : Str} {sp : Sp} {s₁ : Shared} {vs : List Value} {ns : List Int}
    (KX : K.In s₁.heap) (hns : s₁.heap.Ns mainGlobals mg) (hb : s₁.heap.Ns builtinsNs mb) (hbb : ∀ x : Str, x ≠ "__name__" → mb x = bootBuiltins x) (hlim : s₁.heap.NoLimit) (hg : s₁.gens = #[])
    (ha : s₁.heap.get? a = some { cls := .type "list", data := .seq vs.toArray }) (hi : IntsAre vs ns) (hl : ns.length ≤ sizeLine) (hr : Room k callerA)
    (F : ∀ base : Heap, K.In base → base.Ns mainGlobals mg → FnOk P w K mg base CX k fa fd [x] sp) (hbind : ∀ (s : Shared) (u : Value), BindsTo s fd ⟨[u], []⟩ [(x, u)])
    (hsp : ∀ H : Hp, Only H → SqL K H a (ns.map V.int) → sp [.ref a] H (fun v _ => v = .bl true) fun _ _ _ => False)
    (hCX : ∀ H e s', CX [] H s₁ (fun _ _ _ => False) e s' → False) :
    codeAny (model P w) callerA (.call (.ref fa) ⟨[.ref a], []⟩) (fun r s' => r = .ok (.ret (.bool true)) ∧ OldK s₁.heap s'.heap ∧ s'.os = s₁.os ∧ AllBare s'.gens) s₁ := by
  have rv := vals_ints hi
  have lenV := hi.length
  have core : ∀ H : Hp, Only H → SqL K H a (ns.map V.int) → HOk P w H s₁.heap → (∀ b, H b ≠ none → b = a) → (H a ≠ none → K.lookup a = none) →
      codeAny (model P w) callerA (.call (.ref fa) ⟨[.ref a], []⟩) (fun r s' => r = .ok (.ret (.bool true)) ∧ OldK s₁.heap s'.heap ∧ s'.os = s₁.os ∧ AllBare s'.gens) s₁ := by
    intro H hO hS hok hA hK
    have base_of : ∀ {b : Addr} {o : Obj}, s₁.heap.get? b = some o → H b = none → (hidT s₁.heap H).get? b = some o := fun e n => hidT_get e n
    have noA : ∀ {b : Addr} {o : Obj} {es : Array DictEntry} {ep : Nat}, s₁.heap.get? b = some o → o.data = .dict es ep → H b = none := fun {b o es ep} e d => by
      cases q : H b with
      | none => rfl
      | some u =>
        have e' : b = a := hA b (by rw [q]; simp)
        subst e'
        rw [ha] at e; cases e
        have d' : Data.seq vs.toArray _ = Data.dict es ep := d
        cases d'
    have nsK : ∀ {b : Addr} {m : Str → Option Value}, s₁.heap.Ns b m → (hidT s₁.heap H).Ns b m := fun {b m} ⟨o, es, ep, e, d, r⟩ => ⟨o, es, ep, base_of e (noA e d), d, r⟩
    have hKb : K.In (hidT s₁.heap H) := fun b o e => base_of (KX b o e) (by
      cases q : H b with
      | none => rfl
      | some u =>
        have e' : b = a := hA b (by rw [q]; simp)
        subst e'
        rw [hK (by rw [q]; simp)] at e; cases e)
    have hM : Mod K mg (hidT s₁.heap H) := ⟨hKb, nsK hns, ⟨mb, nsK hb, hbb⟩, let ⟨mc, h1, h2⟩ := hlim; ⟨mc, nsK h1, h2⟩⟩
    have e0 : Env0 P w K mg (hidT s₁.heap H) callerA [] s₁ H := ⟨rfl, hM, fun b o e => of_hidT e, Nat.le_of_eq (hidT_size _ _), trivial, fun b hb => absurd (show b ∈ ([] : List Addr) from hb) (by simp), hok, .of_eq hg⟩
    refine codeAny_mono ((F _ hKb (nsK hns)).run callerA [] s₁ H ⟨[.ref a], []⟩ [.ref a] [.ref a] _ _ hr e0 (hbind s₁ (.ref a)) (.cons rfl .nil) (hsp H hO hS)) fun r s' h => ?_
    cases r with
    | error e => exact (hCX H e s' h).elim
    | ok fl =>
      cases fl with
      | next => exact False.elim h
      | brk => exact False.elim h
      | cont => exact False.elim h
      | ret u =>
        obtain ⟨v, H', os, bare, un, hok', r', q⟩ := h
        have q' : v = .bl true := q
        subst q'
        obtain rfl : u = Value.bool true := r'
        refine ⟨rfl, OldK.of_keep fun b o e => ?_, os, bare⟩
        cases q : H b with
        | none => exact un.keep b o e q (by intro z; exact absurd (show b ∈ ([] : List Addr) from z) (by simp)) (by simp)
        | some u =>
          rcases hO b with z | ⟨ob, xs, z⟩
          · rw [q] at z; cases z
          · have z2 := un.frzs b ob _ z
            obtain ⟨e1, _⟩ := hok b _ z
            obtain ⟨e2, _⟩ := hok' b _ z2
            rw [e] at e1; cases e1
            exact e2
  cases hk : K.lookup a with
  | some o =>
    have e := KX a o hk
    rw [ha] at e
    cases e
    refine core (fun _ => none) (fun _ => .inl rfl) (.inr ⟨_, vs.toArray, _, hk, rfl, rfl, rfl, by rw [List.size_toArray, lenV]; exact hl, by simpa using rv⟩) (fun b u z => by have z' : (none : Option HO) = some u := z; cases z') (fun b z => absurd rfl z) fun z => absurd rfl z
  | none =>
    refine core (fun b => if b = a then some (.frz { cls := .type "list", data := .seq vs.toArray } (.lst (ns.map V.int))) else none) (fun b => ?_) (.inl (.inr ⟨{ cls := .type "list", data := .seq vs.toArray }, if_pos rfl⟩)) (fun b u z => ?_) (fun b z => ?_) fun _ => hk
    · by_cases hb : b = a
      · exact .inr ⟨_, _, if_pos hb⟩
      · exact .inl (if_neg hb)
    · by_cases hb : b = a
      · have z' := (if_pos hb).symm.trans z
        cases z'
        subst hb
        exact ⟨ha, by rw [List.length_map]; exact hl, vs, _, rv, ha⟩
      · have z' := (if_neg hb).symm.trans z
        cases z'
    · by_cases hb : b = a
      · exact hb
      · exact absurd (if_neg hb) z
end L2
namespace L2
open PySem PySem.Spec PyProof.Rows
theorem walk_of {l : PySem.W.OpenLaw} {n k : Nat} {q : Program} {loose : List Str} {XP : (Str → Option Value) → Heap → Prop} {YP : World → Heap → Prop} {d : DefRec} {K : Params → PySem.W.Frag} {CX : World → CXT} {sp : World → Sp} {x : Str}
    (hn : l.most = some n) (hn2 : n ≤ sizeLine) (hdf : d.params.defaults = []) (hr : Room k callerA)
    (hY : ∀ (w : World) (h : Heap), YP w h → (K w.params).In h)
    (F : ∀ (w : World) (mg : Str → Option Value) (fa : Addr) (h : Heap), (K w.params).In h → h.Ns mainGlobals mg → mg d.name = some (.ref fa) →
      ∃ fd : FuncData, (∀ (s : Shared) (u : Value), BindsTo s fd ⟨[u], []⟩ [(x, u)]) ∧
        ∀ base : Heap, (K w.params).In base → base.Ns mainGlobals mg → FnOk l.prog w (K w.params) mg base (CX w) k fa fd [x] (sp w))
    (hsp : ∀ (w : World) (H : Hp) (a : Addr) (ns : List Int), ns.length ≤ n → Only H → SqL (K w.params) H a (ns.map V.int) → sp w [.ref a] H (fun v _ => v = .bl true) fun _ _ _ => False)
    (hCX : ∀ (w : World) (H : Hp) (s : Shared) (e : Value) (s' : Shared), CX w [] H s (fun _ _ _ => False) e s' → False) :
    PySem.W.WalkO q loose XP YP l.row.toRowW d [] (fun f vs => PySem.call f vs) := by
  refine Att.attach_call hn hdf fun w s₀ s₁ mg mb fa o pm cd doc a vs ns G Y ho hd hcd hmg hobj hints hlen hg => ?_
  have KX := hY w _ Y
  obtain ⟨fd, hb, hF⟩ := F w mg fa _ KX G.T.g hmg
  exact law_call KX G.T.g G.T.b G.T.builtins G.T.nolimit hg hobj hints (Nat.le_trans hlen hn2) hr hF hb (fun H hO hS => hsp w H a ns hlen hO hS) fun H e s' => hCX w H s₁ e s'
end L2
namespace L2
open PySem PySem.Spec PyProof.Rows
noncomputable def defArgs (s : Stmt) : Arguments := match s with
 | .FunctionDef _ a _ _ _ _ _ _ _ _ => a
 | _ => { posonlyargs := [], args := [], vararg := none, kwonlyargs := [], kw_defaults := [], kwarg := none, defaults := [] }
noncomputable def defBody (s : Stmt) : List Stmt := match s with
 | .FunctionDef _ _ b _ _ _ _ _ _ _ => b
 | _ => []
noncomputable def defScope (s : Stmt) : Scope := match s with
 | .FunctionDef _ _ _ _ _ _ sc _ _ _ => sc
 | _ => { kind := .function, names := [], isGenerator := false, isCoroutine := false }
abbrev CX0 : CXT := fun _ _ _ _ _ _ => False
structure Fun (K : PySem.W.Frag) (x qual : Str) (st : Stmt) (f : Addr) (fd : FuncData) : Prop where
 ex : ∃ (oc : Value) (od : Option Addr) (kV doc pm : Value) (an : Option Addr) (cdv ct : Value) (osl : Array (Option Value)),
  fd = PySem.W.fnOf x qual (defArgs st) (defBody st) (defScope st) .none kV doc pm an cdv ct ∧ K.lookup f = some ⟨oc, od, .func fd, osl⟩ ∧ PySem.W.codeIn K cdv qual = true
 kp : PySem.W.keepIn K (.ref f) = true
section
variable {P : Program} {w : World} {K : PySem.W.Frag} {mg : Str → Option Value} {base : Heap}
theorem Fun.ok {x qual : Str} {st : Stmt} {f : Addr} {fd : FuncData} {N ps : List Str} {k : Nat} {sp : Sp} (F : Fun K x qual st f fd) (S : FnScope N ps (defScope st)) (len : ∀ vs H Q E, sp vs H Q E → vs.length = ps.length)
    (hbody : ∀ (cdv : Value) (A : Around) (outer : List Env) (s : Shared) (H : Hp) (vs : List V) (Q : VK) (E : XK), Room k (A.deeper (envOfC qual (defScope st) s.heap.objs.size f cdv)) → sp vs H Q E →
      ∃ t, PSs (cxOf CX0 P w K mg base N qual (defScope st) f cdv A outer s H E).nox (defBody st) t ∧ t { nx := fun _ H' => Q .non H', rt := Q } (start N vs) H) : FnOk P w K mg base CX0 (k + 1) f fd ps sp := by
  obtain ⟨oc, od, kV, doc, pm, an, cdv, ct, osl, rfl, lk, hcd⟩ := F.ex
  refine fn_of lk hcd S len fun A outer s H vs Q E hr hsp => ?_
  obtain ⟨t, h, q⟩ := hbody cdv A outer s H vs Q E hr hsp
  exact ⟨t, h.nox, q⟩
end
section
variable {X : Cx}
theorem pv (i : Nat) {x : Str} {pos : Pos} (hN : X.N[i]? = some x := by rfl) (hv : Vis X.env.scope x := by first | exact Or.inl rfl | exact Or.inr (Or.inl rfl) | exact Or.inr (Or.inr rfl)) (hd : (x == ("__debug__" : Str)) = false := by decide)
    (hcd : (x == ("__classdict__" : Str)) = false := by decide) : PE X (.Name x pos) (tVar i) := pe_var hN hv hd hcd
end
theorem iteF {A B : Prop} (h : B) : if false = true then A else B := by
 rw [if_neg Bool.false_ne_true]
 exact h
theorem iteT {A B : Prop} (h : A) : if true = true then A else B := by
 rw [if_pos rfl]
 exact h
def Same (H H' : Hp) : Prop := ∀ b o, H b = some o → H' b = some o
theorem Same.trans {H H1 H2 : Hp} (a : Same H H1) (b : Same H1 H2) : Same H H2 := fun c o h => b c o (a c o h)
theorem Same.free {H H' : Hp} (e : Same H H') {l : Addr} (h : H' l = Option.none) : H l = Option.none := by
 cases q : H l with
 | none => rfl
 | some o =>
  rw [e l o q] at h
  cases h
section
variable {κ : Type} [DecidableEq κ]
end
end L2
namespace DD
open PySem PySem.Builtin L2
open PyProof.Rows (IsTup.new)
end DD
set_option genSizeOf false
namespace DD
open PySem
inductive D where
 | non | bl (b : Bool) | int (i : Int) | str (x : Str) | tup (ds : List D) | loc (n : Nat)
 deriving Inhabited
mutual
noncomputable def D.beq : D → D → Bool
 | .non, .non => true
 | .bl a, .bl b => a == b
 | .int a, .int b => a == b
 | .str a, .str b => decide (a = b)
 | .tup a, .tup b => D.beqL a b
 | .loc a, .loc b => a == b
 | _, _ => false
noncomputable def D.beqL : List D → List D → Bool
 | [], [] => true
 | a :: r, b :: t => D.beq a b && D.beqL r t
 | _, _ => false
end
mutual
theorem D.beq_eq : ∀ {a b : D}, D.beq a b = true → a = b
 | .non, b, h => by cases b <;> first | rfl | simp [D.beq] at h
 | .bl x, b, h => by cases b <;> simp [D.beq] at h; rw [h]
 | .int x, b, h => by cases b <;> simp [D.beq] at h; rw [h]
 | .str x, b, h => by cases b <;> simp [D.beq] at h; rw [h]
 | .loc x, b, h => by cases b <;> simp [D.beq] at h; rw [h]
 | .tup x, b, h => by
  cases b with
  | tup y =>
   have e : x = y := D.beqL_eq (by simpa [D.beq] using h)
   rw [e]
  | _ => simp [D.beq] at h
theorem D.beqL_eq : ∀ {a b : List D}, D.beqL a b = true → a = b
 | [], [], _ => rfl
 | [], _ :: _, h => by simp [D.beqL] at h
 | _ :: _, [], h => by simp [D.beqL] at h
 | x :: r, y :: t, h => by
  simp only [D.beqL, Bool.and_eq_true] at h
  rw [D.beq_eq h.1, D.beqL_eq h.2]
end
mutual
theorem D.beq_refl : ∀ a : D, D.beq a a = true
 | .non => rfl
 | .bl x => by simp [D.beq]
 | .int x => by simp [D.beq]
 | .str x => by simp [D.beq]
 | .loc x => by simp [D.beq]
 | .tup x => by simp only [D.beq]; exact D.beqL_refl x
theorem D.beqL_refl : ∀ a : List D, D.beqL a a = true
 | [] => rfl
 | x :: r => by simp only [D.beqL, Bool.and_eq_true]; exact ⟨D.beq_refl x, D.beqL_refl r⟩
end
instance : DecidableEq D := fun a b => decidable_of_iff (D.beq a b = true) ⟨D.beq_eq, fun h => h ▸ D.beq_refl a⟩
inductive Cell where
 | lst (ds : List D)
 | frz (ds : List D)
 | dct (kvs : List (D × D))
 | dcn (kvs : List (D × D))
 | dcf (kvs : List (D × D))
 | fnc (i : Nat)
 | ins (c : Nat) (fs : List (Str × D))
 | exn (c : Nat)
 deriving Inhabited
abbrev Sto := List Cell
abbrev Env := List (Option D)
inductive Res (α : Type) where
 | ok (a : α) (st : Sto)
 | exc (c : Nat) (st : Sto)
 | bad
def Res.bind {α β : Type} (r : Res α) (f : α → Sto → Res β) : Res β := match r with
 | .ok a st => f a st
 | .exc c st => .exc c st
 | .bad => .bad
@[simp] theorem bind_ok {α β : Type} (a : α) (st : Sto) (f : α → Sto → Res β) : (Res.ok a st).bind f = f a st := rfl
@[simp] theorem bind_exc {α β : Type} (c : Nat) (st : Sto) (f : α → Sto → Res β) : (Res.exc c st : Res α).bind f = .exc c st := rfl
@[simp] theorem bind_bad {α β : Type} (f : α → Sto → Res β) : (Res.bad : Res α).bind f = .bad := rfl
inductive Ty where
 | b (x : String) | o (n : Nat)
 deriving DecidableEq
noncomputable def cellTy : Cell → Option Ty
 | .lst _ => some (.b "list")
 | .frz _ => some (.b "list")
 | .dct _ => some (.b "dict")
 | .dcn _ => some (.b "dict")
 | .dcf _ => some (.b "dict")
 | .fnc _ => none
 | .ins _ _ => none
 | .exn c => some (.o c)
noncomputable def tyOf (st : Sto) : D → Option Ty
 | .non => some (.b "NoneType")
 | .bl _ => some (.b "bool")
 | .int _ => some (.b "int")
 | .str _ => some (.b "str")
 | .tup _ => some (.b "tuple")
 | .loc n => (st[n]?).bind cellTy
noncomputable def lstOf (st : Sto) (n : Nat) : Option (List D) := match st[n]? with
 | some (.lst ds) => some ds
 | some (.frz ds) => some ds
 | _ => none
noncomputable def seqOf (st : Sto) : D → Option (List D)
 | .tup ds => some ds
 | .loc n => lstOf st n
 | _ => none
noncomputable def truth (st : Sto) : D → Option Bool
 | .non => some false
 | .bl b => some b
 | .int i => some (i != 0)
 | .str x => if x.length ≤ sizeLine then some ((x.length : Int) != 0) else none
 | .tup ds => some (!ds.isEmpty)
 | .loc n => (lstOf st n).map fun ds => !ds.isEmpty
def optAll {α : Type} : List (Option α) → Option (List α)
 | [] => some []
 | some a :: r => (optAll r).map (a :: ·)
 | none :: _ => none
noncomputable def pyOf (st : Sto) : Nat → D → Option PyData
 | _, .non => some .none
 | _, .bl b => some (.bool b)
 | _, .int i => some (.int i)
 | _, .str x => if PyData.canLay0 (.str x) = true then some (.str x) else none
 | 0, _ => none
 | n + 1, .tup ds => (optAll (ds.map (pyOf st n))).map .tuple
 | n + 1, .loc m => (lstOf st m).bind fun ds => (optAll (ds.map (pyOf st n))).map .list
noncomputable def eqV (st : Sto) (a b : D) : Option Bool := match pyOf st 40 a, pyOf st 40 b with
 | some x, some y => some (PyData.eqv x y)
 | _, _ => none
inductive Op where
 | add | sub | mul | fdiv | mod | pow
inductive Cm where
 | eq | ne | lt | le | gt | isN | inL | notIn
inductive Bt where
 | intB | lenB | tupleB | allB | minLB | maxLB
 deriving DecidableEq
inductive Mt where
 | append | popI | getN | sdefN
set_option genInjectivity false
mutual
inductive E where
 | var (i : Nat)
 | cst (d : D)
 | tupE (es : Es)
 | lstE (es : Es)
 | op (o : Op) (a b : E)
 | cm (c : Cm) (a b : E)
 | andE (a b : E)
 | orE (a b : E)
 | notE (a : E)
 | ifE (c a b : E)
 | call (f : Nat) (es : Es) (dv : List D)
 | bt (f : Bt) (es : Es)
 | ix (a b : E)
 | isi (a : E) (t : Ty)
 | dnewN
 | sl (k : Nat) (a : E) (es : Es)
 | fld (c : Nat) (o : E) (f : Str)
 | mk (c f : Nat) (es : Es)
 | meth (c f : Nat) (m : Str) (o : E) (es : Es)
 | mt (m : Mt) (o : E) (es : Es)
 | comp (n : Nat) (one : Bool) (nl : Nat) (tg : List Nat) (fv : List Nat) (it : E) (ifs : Es) (elt : E)
inductive Es where
 | nil
 | cons (e : E) (es : Es)
end
mutual
inductive S where
 | set (i : Nat) (e : E)
 | unp (is : List Nat) (e : E)
 | ifS (c : E) (a b : Ss)
 | whileS (c : E) (b : Ss)
 | forS (tg : List Nat) (one : Bool) (k : Bool) (it : E) (b : Ss)
 | forR (tg : List Nat) (es : Es) (b : Ss)
 | setf (c : Nat) (o : E) (f : Str) (e : E)
 | dput (d k v : E)
 | ret (e : E)
 | ex (e : E)
 | pass
inductive Ss where
 | nil
 | cons (s : S) (r : Ss)
end
set_option genInjectivity true
noncomputable def BIG : Nat := 2 ^ 4000
def smallI (i : Int) : Prop := -(2 ^ 64) < i ∧ i < 2 ^ 64
instance (i : Int) : Decidable (smallI i) := by unfold smallI; infer_instance
def mulOk (i j : Int) : Prop := smallI i ∨ smallI j ∨ (i.natAbs < BIG ∧ j.natAbs < BIG)
instance (i j : Int) : Decidable (mulOk i j) := by unfold mulOk; infer_instance
def divOk (j : Int) : Prop := j ≠ 0 ∧ j.natAbs < BIG
instance (j : Int) : Decidable (divOk j) := by unfold divOk; infer_instance
def powOk (i j : Int) : Prop := 0 ≤ j ∧ j ≤ 1000000 ∧ i.natAbs < 2 ^ 64
instance (i j : Int) : Decidable (powOk i j) := by unfold powOk; infer_instance
noncomputable def dctOf (st : Sto) (n : Nat) : Option (List (D × D)) := match st[n]? with
 | some (.dct kvs) => some kvs
 | _ => none
noncomputable def dLook (kvs : List (D × D)) (k : D) : Option D := (kvs.find? fun p => decide (p.1 = k)).map (·.2)
noncomputable def dPut (kvs : List (D × D)) (k v : D) : List (D × D) := if (kvs.any fun p => decide (p.1 = k)) = true then kvs.map fun p => if p.1 = k then (p.1, v) else p else kvs ++ [(k, v)]
noncomputable def okN : Nat → D → Bool
 | _, .int _ => true
 | _, .str x => PyData.canLay0 (.str x)
 | n + 1, .tup ds => ds.all (okN n)
 | _, _ => false
noncomputable def keyN : D → Bool
 | .tup ds => okN 8 (.tup ds)
 | _ => false
noncomputable def dcnOf (st : Sto) (n : Nat) : Option (List (D × D)) := match st[n]? with
 | some (.dcn kvs) => some kvs
 | _ => none
noncomputable def opD (o : Op) (a b : D) (st : Sto) : Res D := match o with
 | .add => (match a, b with
  | .int i, .int j => .ok (.int (i + j)) st
  | .str x, .str y => if x.length + y.length ≤ sizeLine then .ok (.str (x ++ y)) st else .bad
  | .loc n, .loc m => (match st[n]?, st[m]? with
   | some (.lst xs), some (.lst ys) => if xs.length + ys.length ≤ sizeLine then .ok (.loc st.length) (st ++ [.lst (xs ++ ys)]) else .bad
   | _, _ => .bad)
  | _, _ => .bad)
 | .sub => (match a, b with | .int i, .int j => .ok (.int (i - j)) st | _, _ => .bad)
 | .mul => (match a, b with | .int i, .int j => if mulOk i j then .ok (.int (i * j)) st else .bad | _, _ => .bad)
 | .fdiv => (match a, b with | .int i, .int j => if divOk j then .ok (.int (i.fdiv j)) st else .bad | _, _ => .bad)
 | .mod => (match a, b with | .int i, .int j => if j ≠ 0 then .ok (.int (i.fmod j)) st else .bad | _, _ => .bad)
 | .pow => (match a, b with | .int i, .int j => if powOk i j then .ok (.int (i ^ j.toNat)) st else .bad | _, _ => .bad)
noncomputable def inS (st : Sto) (a b : D) : Option Bool := match pyOf st 40 a, pyOf st 41 b with
 | some x, some (.list ys) => some (ys.any fun y => PyData.eqv y x)
 | some x, some (.tuple ys) => some (ys.any fun y => PyData.eqv y x)
 | _, _ => none
noncomputable def inD (st : Sto) (a b : D) : Option Bool := match b with
 | .str y => match a with | .str x => some (!(Builtin.Str.occurrences y x 0 y.length 1).isEmpty) | _ => none
 | .loc n => match dcnOf st n with
  | some kvs => if keyN a then some (dLook kvs a).isSome else none
  | none => inS st a b
 | _ => inS st a b
noncomputable def cmD (c : Cm) (a b : D) (st : Sto) : Res D := match c with
 | .eq => match eqV st a b with | some x => .ok (.bl x) st | none => .bad
 | .ne => match eqV st a b with | some x => .ok (.bl (!x)) st | none => .bad
 | .lt => match a, b with | .int i, .int j => .ok (.bl (decide (i < j))) st | _, _ => .bad
 | .le => match a, b with | .int i, .int j => .ok (.bl (decide (i ≤ j))) st | _, _ => .bad
 | .gt => match a, b with | .int i, .int j => .ok (.bl (decide (j < i))) st | _, _ => .bad
 | .isN => match b with | .non => .ok (.bl (decide (a = .non))) st | .bl c => .ok (.bl (decide (a = .bl c))) st | _ => .bad
 | .inL => match inD st a b with | some x => .ok (.bl x) st | none => .bad
 | .notIn => match inD st a b with | some x => .ok (.bl (!x)) st | none => .bad
noncomputable def atD (xs : List D) (i : Int) : Option D := L2.atI xs i
noncomputable def ixS (a b : D) (st : Sto) : Res D := match b with
 | .int i => match seqOf st a with
  | some xs => match atD xs i with | some d => .ok d st | none => .bad
  | none => match a with
   | .str z => match L2.atI z.cps.toList i with
    | some c => if z.length ≤ sizeLine then .ok (.str ⟨#[c]⟩) st else .bad
    | none => .bad
   | _ => .bad
 | _ => .bad
noncomputable def ixD (a b : D) (st : Sto) : Res D := match a with
 | .loc n => match dcnOf st n with
  | some kvs => if keyN b then (match dLook kvs b with | some d => .ok d st | none => .bad) else .bad
  | none => ixS a b st
 | _ => ixS a b st
noncomputable def slParts (k : Nat) (ds : List D) : Option (Option Int × Option Int) := match k, ds with
 | 0, [] => some (none, none)
 | 1, [.int i] => some (some i, none)
 | 2, [.int j] => some (none, some j)
 | 3, [.int i, .int j] => some (some i, some j)
 | _, _ => none
def cutD {α : Type} (xs : List α) (lo hi : Option Int) : List α := (xs.drop (HT.sIx xs.length 0 lo)).take (HT.sIx xs.length xs.length hi - HT.sIx xs.length 0 lo)
noncomputable def slD (k : Nat) (a : D) (ds : List D) (st : Sto) : Res D := match slParts k ds with
 | some (lo, hi) => match a with
  | .tup xs => .ok (.tup (cutD xs lo hi)) st
  | .loc n => match lstOf st n with
   | some xs => .ok (.loc st.length) (st ++ [.lst (cutD xs lo hi)])
   | none => .bad
  | _ => .bad
 | none => .bad
noncomputable def blsOf : List D → Option (List Bool)
 | [] => some []
 | .bl b :: r => (blsOf r).map (b :: ·)
 | _ => none
noncomputable def intsOf : List D → Option (List Int)
 | [] => some []
 | .int b :: r => (intsOf r).map (b :: ·)
 | _ => none
noncomputable def minL : List Int → Int
 | [] => 0
 | a :: r => r.foldl (fun m x => if x < m then x else m) a
noncomputable def maxOr (d : Int) : List Int → Int
 | [] => d
 | a :: r => r.foldl (fun m x => if x > m then x else m) a
noncomputable def putFD (f : Str) (v : D) : List (Str × D) → List (Str × D)
 | [] => [(f, v)]
 | (g, x) :: r => if g = f then (g, v) :: r else (g, x) :: putFD f v r
noncomputable def btD (f : Bt) (ds : List D) (st : Sto) : Res D := match f with
 | .intB => (match ds with | [.int i] => .ok (.int i) st | [.bl b] => .ok (.int (if b then 1 else 0)) st | _ => .bad)
 | .lenB => (match ds with
  | [.tup xs] => .ok (.int xs.length) st
  | [.loc n] => (match lstOf st n with | some xs => .ok (.int xs.length) st | none => .bad)
  | [.str z] => if z.length ≤ sizeLine then .ok (.int z.length) st else .bad
  | _ => .bad)
 | .tupleB => (match ds with | [d] => (match seqOf st d with | some xs => .ok (.tup xs) st | none => .bad) | _ => .bad)
 | .allB => (match ds with | [.loc n] => (match (lstOf st n).bind blsOf with | some bs => .ok (.bl (bs.all id)) st | none => .bad) | _ => .bad)
 | .minLB => (match ds with | [.loc n] => (match (lstOf st n).bind intsOf with | some (i :: is) => .ok (.int (minL (i :: is))) st | _ => .bad) | _ => .bad)
 | .maxLB => (match ds with | [.loc n] => (match (lstOf st n).bind intsOf with | some (i :: is) => .ok (.int (maxOr 0 (i :: is))) st | _ => .bad) | _ => .bad)
noncomputable def isLst (st : Sto) : D → Bool
 | .loc n => match st[n]? with | some (.lst _) => true | _ => false
 | _ => false
noncomputable def rdy (m : Mt) (st : Sto) (d : D) : Bool := match m with
 | .getN => (match d with | .loc n => (dcnOf st n).isSome | _ => false)
 | .sdefN => (match d with | .loc n => (dcnOf st n).isSome | _ => false)
 | _ => isLst st d
noncomputable def mtD (m : Mt) (o : D) (ds : List D) (st : Sto) : Res D := match m with
 | .append => (match o, ds with
  | .loc n, [d] => (match st[n]? with
   | some (.lst xs) => if xs.length < sizeLine then .ok .non (st.set n (.lst (xs ++ [d]))) else .bad
   | _ => .bad)
  | _, _ => .bad)
 | .getN => (match o with
  | .loc n => (match dcnOf st n with
   | some kvs => (match ds with
    | [k] => if keyN k then .ok ((dLook kvs k).getD .non) st else .bad
    | [k, x] => if keyN k then .ok ((dLook kvs k).getD x) st else .bad
    | _ => .bad)
   | none => .bad)
  | _ => .bad)
 | .sdefN => (match o, ds with
  | .loc n, [k, x] => (match dcnOf st n with
   | some kvs => if keyN k = true ∧ kvs.length < sizeLine then (match dLook kvs k with | some d => .ok d st | none => .ok x (st.set n (.dcn (dPut kvs k x)))) else .bad
   | none => .bad)
  | _, _ => .bad)
 | .popI => (match o, ds with
  | .loc n, [.int i] => (match st[n]? with
   | some (.lst xs) => (match xs with
    | y :: r => if i = 0 then .ok y (st.set n (.lst r)) else .bad
    | [] => .bad)
   | _ => .bad)
  | _, _ => .bad)
noncomputable def subB : String → String → Option Bool := fun t c => if t = c then some true else if t = "bool" ∧ c = "int" then some true else if c = "bool" ∨ c = "int" ∨ c = "tuple" ∨ c = "list" ∨ c = "str" ∨ c = "dict" then some false else none
noncomputable def subT (tab : Nat → Ty → Option Bool) : Ty → Ty → Option Bool
 | .b t, .b c => subB t c
 | .b _, .o _ => none
 | .o n, c => tab n c
end DD
namespace DD
open PySem
abbrev Or := Nat → List D → Sto → Res D
section
variable (tab : Nat → Ty → Option Bool) (call : Or)
noncomputable def getV (env : Env) (i : Nat) : Option D := (env[i]?).join
noncomputable def setAll : List Nat → List D → Env → Option Env
 | [], [], env => some env
 | i :: r, d :: t, env => if i < env.length then setAll r t (env.set i (some d)) else none
 | _, _, _ => none
noncomputable def store (tg : List Nat) (one : Bool) (d : D) (env : Env) : Option Env := if one then setAll tg [d] env else match d with
 | .tup ds => setAll tg ds env
 | _ => none
noncomputable def walkOf (k : Bool) (st : Sto) : D → Option (List D × Option Nat)
 | .tup ds => if k then some (ds, none) else none
 | .loc n => if k then none else (lstOf st n).map fun ds => (ds, some n)
 | _ => none
noncomputable def stays (st : Sto) (p : Option Nat) (ds : List D) : Bool := match p with
 | none => true
 | some n => decide (lstOf st n = some ds)
noncomputable def rngL (lo : Int) (n : Nat) : List D := (List.range n).map fun k => .int (lo + (k : Nat))
noncomputable def rngOf (ds : List D) : Option (List D) := match ds with
 | [.int j] => if -(2 ^ 62) ≤ j ∧ j < 2 ^ 62 then some (rngL 0 j.toNat) else none
 | [.int i, .int j] => if -(2 ^ 62) ≤ i ∧ i < 2 ^ 62 ∧ -(2 ^ 62) ≤ j ∧ j < 2 ^ 62 then some (rngL i (j - i).toNat) else none
 | _ => none
noncomputable def compLoop (all : List D) (p : Option Nat) (n0 : Nat) (body : D → Sto → Res (Option D)) : List D → Sto → Res Unit
  | [], st => if stays st p all then .ok () st else .bad
  | d :: r, st => if stays st p all then (match body d st with
      | .ok (some y) st' => (match st'[n0]? with
        | some (.lst ys) => if ys.length < sizeLine then compLoop all p n0 body r (st'.set n0 (.lst (ys ++ [y]))) else .bad
        | _ => .bad)
      | .ok none st' => compLoop all p n0 body r st'
      | _ => .bad)
    else .bad
noncomputable def itOf (k : Nat) (st : Sto) (d : D) : Option (List D × Option Nat) := match k, d with
 | 0, .loc n => (lstOf st n).map fun ds => (ds, some n)
 | 1, .tup ds => some (ds, none)
 | 2, .tup ds => (rngOf ds).map fun xs => (xs, none)
 | 4, .loc n => (match st[n]? with | some (.dcf kvs) => some (kvs.map (·.1), none) | _ => none)
 | 3, .str z => if z.length ≤ sizeLine then some (z.cps.toList.map fun c => .str ⟨#[c]⟩, none) else none
 | _, _ => none
noncomputable def envIn (nl : Nat) (fv : List Nat) (env : Env) : Env := List.replicate nl none ++ fv.map (getV env)
mutual
noncomputable def evalE : E → Env → Sto → Res D
  | .var i, env, st => match getV env i with | some d => .ok d st | none => .bad
  | .cst d, _, st => .ok d st
  | .tupE es, env, st => (evalEs es env st).bind fun ds st => if ds.length ≤ sizeLine then .ok (.tup ds) st else .bad
  | .lstE es, env, st => (evalEs es env st).bind fun ds st => if ds.length ≤ sizeLine then .ok (.loc st.length) (st ++ [.lst ds]) else .bad
  | .op o a b, env, st => (evalE a env st).bind fun x st => (evalE b env st).bind fun y st => opD o x y st
  | .cm c a b, env, st => (evalE a env st).bind fun x st => (evalE b env st).bind fun y st => cmD c x y st
  | .andE a b, env, st => (evalE a env st).bind fun x st => match x with | .bl true => evalE b env st | .bl false => .ok (.bl false) st | _ => .bad
  | .orE a b, env, st => (evalE a env st).bind fun x st => match x with | .bl true => .ok (.bl true) st | .bl false => evalE b env st | _ => .bad
  | .notE a, env, st => (evalE a env st).bind fun x st => match x with | .bl b => .ok (.bl (!b)) st | _ => .bad
  | .ifE c a b, env, st => (evalT c env st).bind fun x st => if x then evalE a env st else evalE b env st
  | .call f es dv, env, st => (evalEs es env st).bind fun ds st => call f (ds ++ dv) st
  | .bt f es, env, st => (evalEs es env st).bind fun ds st => btD f ds st
  | .ix a b, env, st => (evalE a env st).bind fun x st => (evalE b env st).bind fun y st => ixD x y st
  | .isi a t, env, st => (evalE a env st).bind fun x st => match (tyOf st x).bind fun u => subT tab u t with | some b => .ok (.bl b) st | none => .bad
  | .dnewN, _, st => .ok (.loc st.length) (st ++ [.dcn []])
  | .sl k a es, env, st => (evalE a env st).bind fun x st => (evalIs es env st).bind fun ds st => slD k x ds st
  | .fld c o f, env, st => (evalE o env st).bind fun x st => match x with
      | .loc n => match st[n]? with | some (.ins c' fs) => (match fs.lookup f with | some d => if c' = c then .ok d st else .bad | none => .bad) | _ => .bad
      | _ => .bad
  | .mk c f es, env, st => (evalEs es env st).bind fun ds st => (call f (.loc st.length :: ds) (st ++ [.ins c []])).bind fun r st' => match r with | .non => .ok (.loc st.length) st' | _ => .bad
  | .meth c f m o es, env, st => (evalE o env st).bind fun x st => match x with
      | .loc n => match st[n]? with | some (.ins c' fs) => if c' = c ∧ fs.lookup m = none then (evalEs es env st).bind fun ds st => call f (.loc n :: ds) st else .bad | _ => .bad
      | _ => .bad
  | .mt m o es, env, st => (evalE o env st).bind fun x st => if rdy m st x then (evalEs es env st).bind fun ds st => mtD m x ds st else .bad
  | .comp n one nl tg fv it ifs elt, env, st => (evalE it env st).bind fun d st => match itOf n st d with
      | some (xs, p) => (compLoop xs p st.length (fun d st => match store tg one d (envIn nl fv env) with
          | some env' => (evalIfs ifs env' st).bind fun b st => if b then (evalE elt env' st).bind fun y st => .ok (some y) st else .ok none st
          | none => .bad) xs (st ++ [.lst []])).bind fun _ st' => .ok (.loc st.length) st'
      | none => .bad
noncomputable def evalIfs : Es → Env → Sto → Res Bool
 | .nil, _, st => .ok true st
 | .cons c r, env, st => (evalT c env st).bind fun b st => if b then evalIfs r env st else .ok false st
noncomputable def evalIs : Es → Env → Sto → Res (List D)
 | .nil, _, st => .ok [] st
 | .cons e es, env, st => (evalE e env st).bind fun d st => match d with | .int _ => (evalIs es env st).bind fun ds st => .ok (d :: ds) st | _ => .bad
noncomputable def evalEs : Es → Env → Sto → Res (List D)
 | .nil, _, st => .ok [] st
 | .cons e es, env, st => (evalE e env st).bind fun d st => (evalEs es env st).bind fun ds st => .ok (d :: ds) st
noncomputable def evalT : E → Env → Sto → Res Bool
 | .andE a b, env, st => (evalT a env st).bind fun x st => if x then evalT b env st else .ok false st
 | .orE a b, env, st => (evalT a env st).bind fun x st => if x then .ok true st else evalT b env st
 | .notE a, env, st => (evalT a env st).bind fun x st => .ok (!x) st
 | .var i, env, st => match getV env i with | some d => (match truth st d with | some b => .ok b st | none => .bad) | none => .bad
 | .cst d, env, st => match truth st d with | some b => .ok b st | none => .bad
 | .cm c a b, env, st => (evalE a env st).bind fun x st => (evalE b env st).bind fun y st => (cmD c x y st).bind fun d st => match d with | .bl b => .ok b st | _ => .bad
 | .call f es dv, env, st => (evalEs es env st).bind fun ds st => (call f (ds ++ dv) st).bind fun d st => match truth st d with | some b => .ok b st | none => .bad
 | .bt f es, env, st => (evalEs es env st).bind fun ds st => (btD f ds st).bind fun d st => match truth st d with | some b => .ok b st | none => .bad
 | .ix a b, env, st => (evalE a env st).bind fun x st => (evalE b env st).bind fun y st => (ixD x y st).bind fun d st => match truth st d with | some b => .ok b st | none => .bad
 | .mt m o es, env, st => (evalE o env st).bind fun x st => if rdy m st x then (evalEs es env st).bind fun ds st => (mtD m x ds st).bind fun d st => match truth st d with | some b => .ok b st | none => .bad else .bad
 | .isi a t, env, st => (evalE a env st).bind fun x st => match (tyOf st x).bind fun u => subT tab u t with | some b => .ok b st | none => .bad
 | _, _, _ => .bad
end
inductive Fl where
 | next (env : Env) | ret (d : D) | brk (env : Env) | cont (env : Env)
noncomputable def forLoop (all : List D) (p : Option Nat) (body : D → Env → Sto → Res Fl) : List D → Env → Sto → Res Fl
  | [], env, st => if stays st p all then .ok (.next env) st else .bad
  | d :: r, env, st => if stays st p all then (body d env st).bind fun f st' => match f with
      | .next env' => forLoop all p body r env' st'
      | .cont env' => forLoop all p body r env' st'
      | .brk env' => .ok (.next env') st'
      | .ret x => .ok (.ret x) st'
    else .bad
noncomputable def whileLoop (test : Env → Sto → Res Bool) (body : Env → Sto → Res Fl) : Nat → Env → Sto → Res Fl
  | 0, _, _ => .bad
  | F + 1, env, st => (test env st).bind fun b st => if b then (body env st).bind fun f st' => match f with
      | .next env' => whileLoop test body F env' st'
      | .cont env' => whileLoop test body F env' st'
      | .brk env' => .ok (.next env') st'
      | .ret x => .ok (.ret x) st'
    else .ok (.next env) st
mutual
noncomputable def execS (F : Nat) : S → Env → Sto → Res Fl
  | .pass, env, st => .ok (.next env) st
  | .set i e, env, st => (evalE tab call e env st).bind fun d st => if i < env.length then .ok (.next (env.set i (some d))) st else .bad
  | .unp is e, env, st => (evalE tab call e env st).bind fun d st => match store is false d env with | some env' => .ok (.next env') st | none => .bad
  | .setf c o f e, env, st => (evalE tab call e env st).bind fun y st => (evalE tab call o env st).bind fun x st => match x with
      | .loc n => match st[n]? with | some (.ins c' fs) => if fs.length < 900 ∧ c' = c then .ok (.next env) (st.set n (.ins c (putFD f y fs))) else .bad | _ => .bad
      | _ => .bad
  | .dput d k v, env, st => (evalE tab call v env st).bind fun y st => (evalE tab call d env st).bind fun x st => (evalE tab call k env st).bind fun kk st => match x with
      | .loc n => match dcnOf st n with
        | some kvs => if keyN kk = true ∧ kvs.length < sizeLine then .ok (.next env) (st.set n (.dcn (dPut kvs kk y))) else .bad
        | none => .bad
      | _ => .bad
  | .ifS c a b, env, st => (evalT tab call c env st).bind fun x st => if x then execSs F a env st else execSs F b env st
  | .whileS c b, env, st => whileLoop (evalT tab call c) (execSs F b) F env st
  | .forR tg es b, env, st => (evalEs tab call es env st).bind fun ds st => match rngOf ds with
      | some xs => forLoop xs none (fun d env st => match store tg true d env with | some env' => execSs F b env' st | none => .bad) xs env st
      | none => .bad
  | .forS tg one k it b, env, st => (evalE tab call it env st).bind fun d st => match walkOf k st d with
      | some (xs, p) => forLoop xs p (fun d env st => match store tg one d env with | some env' => execSs F b env' st | none => .bad) xs env st
      | none => .bad
  | .ret e, env, st => (evalE tab call e env st).bind fun d st => .ok (.ret d) st
  | .ex e, env, st => (evalE tab call e env st).bind fun _ st => .ok (.next env) st
noncomputable def execSs (F : Nat) : Ss → Env → Sto → Res Fl
  | .nil, env, st => .ok (.next env) st
  | .cons s r, env, st => (execS F s env st).bind fun f st => match f with
      | .next env' => execSs F r env' st
      | f => .ok f st
end
end
structure Fn where
 np : Nat
 nl : Nat
 body : Ss
noncomputable def fin (r : Res Fl) : Res D := r.bind fun f st => match f with
 | .next _ => .ok .non st
 | .ret d => .ok d st
 | _ => .bad
noncomputable def callD (tab : Nat → Ty → Option Bool) (fns : List Fn) (F : Nat) : Nat → Or
 | 0 => fun _ _ _ => .bad
 | n + 1 => fun f args st => match fns[f]? with
  | some fn => if args.length = fn.np ∧ fn.np ≤ fn.nl then fin (execSs tab (callD tab fns F n) F fn.body (args.map some ++ List.replicate (fn.nl - fn.np) none) st) else .bad
  | none => .bad
end DD
namespace DD
open PySem L2
structure CW where
 w : World
 f : Nat → Addr
instance : CoeFun CW (fun _ => Nat → Addr) := ⟨CW.f⟩
section
variable (K : PySem.W.Frag)
mutual
def Rep (rho : List Addr) (H : Hp) : D → V → Prop
 | .non, v => v = .non
 | .bl b, v => v = .bl b
 | .int i, v => v = .int i
 | .str x, v => v = .str x
 | .tup ds, v => ∃ a vs, v = .ref a ∧ SqT K H a vs ∧ RepL rho H ds vs
 | .loc n, v => ∃ a, rho[n]? = some a ∧ v = .ref a
def RepL (rho : List Addr) (H : Hp) : List D → List V → Prop
 | [], vs => vs = []
 | d :: r, vs => ∃ v t, vs = v :: t ∧ Rep rho H d v ∧ RepL rho H r t
end
structure Keep (rho : List Addr) (H : Hp) (rho' : List Addr) (H' : Hp) : Prop where
 ext : ∃ m, rho' = rho ++ m
 tup : ∀ a xs, SqT K H a xs → SqT K H' a xs
 fz : ∀ a o ws, H a = some (.frz o (.dK ws)) → H' a = some (.frz o (.dK ws))
variable {K}
theorem Keep.refl (rho : List Addr) (H : Hp) : Keep K rho H rho H := ⟨⟨[], by simp⟩, fun _ _ h => h, fun _ _ _ h => h⟩
theorem Keep.trans {r1 r2 r3 : List Addr} {H1 H2 H3 : Hp} (a : Keep K r1 H1 r2 H2) (b : Keep K r2 H2 r3 H3) : Keep K r1 H1 r3 H3 := by
 obtain ⟨⟨m, rfl⟩, p, p2⟩ := a
 obtain ⟨⟨k, rfl⟩, q, q2⟩ := b
 exact ⟨⟨m ++ k, by simp⟩, fun a xs h => q a xs (p a xs h), fun a o ws h => q2 a o ws (p2 a o ws h)⟩
theorem Keep.at {r1 r2 : List Addr} {H1 H2 : Hp} (k : Keep K r1 H1 r2 H2) {n : Nat} {a : Addr} (h : r1[n]? = some a) : r2[n]? = some a := by
 obtain ⟨⟨m, rfl⟩, _⟩ := k
 have : n < r1.length := (List.getElem?_eq_some_iff.mp h).1
 rw [List.getElem?_append_left this]; exact h
mutual
theorem Rep.mono {r1 r2 : List Addr} {H1 H2 : Hp} (k : Keep K r1 H1 r2 H2) : ∀ {d : D} {v : V}, Rep K r1 H1 d v → Rep K r2 H2 d v
 | .non, v, h => by simpa [Rep] using h
 | .bl b, v, h => by simpa [Rep] using h
 | .int b, v, h => by simpa [Rep] using h
 | .str b, v, h => by simpa [Rep] using h
 | .tup ds, v, h => by
  simp only [Rep] at h ⊢
  obtain ⟨a, vs, e, q, r⟩ := h
  exact ⟨a, vs, e, k.tup a vs q, RepL.mono k r⟩
 | .loc n, v, h => by
  simp only [Rep] at h ⊢
  obtain ⟨a, e, q⟩ := h
  exact ⟨a, k.at e, q⟩
theorem RepL.mono {r1 r2 : List Addr} {H1 H2 : Hp} (k : Keep K r1 H1 r2 H2) : ∀ {d : List D} {v : List V}, RepL K r1 H1 d v → RepL K r2 H2 d v
 | [], v, h => by simpa [RepL] using h
 | x :: r, v, h => by
  simp only [RepL] at h ⊢
  obtain ⟨y, t, e, p, q⟩ := h
  exact ⟨y, t, e, Rep.mono k p, RepL.mono k q⟩
end
theorem RepL.length {r : List Addr} {H : Hp} : ∀ {ds : List D} {vs : List V}, RepL K r H ds vs → ds.length = vs.length
 | [], vs, h => by simp only [RepL] at h; subst h; rfl
 | x :: t, vs, h => by
  simp only [RepL] at h
  obtain ⟨y, u, rfl, _, q⟩ := h
  simp [RepL.length q]
theorem RepL.get {r : List Addr} {H : Hp} : ∀ {ds : List D} {vs : List V} {i : Nat} {d : D}, RepL K r H ds vs → ds[i]? = some d → ∃ v, vs[i]? = some v ∧ Rep K r H d v
 | [], vs, i, d, h, e => by simp at e
 | x :: t, vs, 0, d, h, e => by
  simp only [RepL] at h
  obtain ⟨y, u, rfl, p, q⟩ := h
  simp at e; subst e
  exact ⟨y, rfl, p⟩
 | x :: t, vs, i + 1, d, h, e => by
  simp only [RepL] at h
  obtain ⟨y, u, rfl, p, q⟩ := h
  simp at e
  obtain ⟨v, e1, e2⟩ := RepL.get q e
  exact ⟨v, by simpa using e1, e2⟩
theorem RepL.append {r : List Addr} {H : Hp} : ∀ {ds es : List D} {vs us : List V}, RepL K r H ds vs → RepL K r H es us → RepL K r H (ds ++ es) (vs ++ us)
 | [], es, vs, us, h, g => by simp only [RepL] at h; subst h; simpa using g
 | x :: t, es, vs, us, h, g => by
  simp only [RepL] at h
  obtain ⟨y, u, rfl, p, q⟩ := h
  show RepL K r H (x :: (t ++ es)) (y :: (u ++ us))
  simp only [RepL]
  exact ⟨y, u ++ us, rfl, p, RepL.append q g⟩
theorem Same.keep {H H' : Hp} (s : Same H H') (rho : List Addr) : Keep K rho H rho H' := ⟨⟨[], by simp⟩, fun a xs h => by
 rcases h with h | h
 · rcases h with h | ⟨o, h⟩
   · exact .inl (.inl (s _ _ h))
   · exact .inl (.inr ⟨o, s _ _ h⟩)
 · exact .inr h, fun a o ws h => s _ _ h⟩
theorem same_upd {H : Hp} {p : Addr} (h : H p = none) (o : HO) : Same H (upd H p o) := fun b u q => by rw [upd_ne (ne_of_none q h)]; exact q
variable (K) (cls : CW)
def ExcIs (a : Addr) (c : Value) : Heap → Prop := fun h => ∃ o vs, h.get? a = some o ∧ o.cls = c ∧ o.data = .fields vs
def FsRep (rho : List Addr) (H : Hp) (fs : List (Str × D)) (ws : List (Str × V)) : Prop := ∀ f, match fs.lookup f, ws.lookup f with
 | some d, some v => Rep K rho H d v
 | none, none => True
 | _, _ => False
noncomputable def kD : D → Option Key
 | .int i => some (.inl i)
 | .str x => some (.inr x)
 | _ => none
def KvRep (rho : List Addr) (H : Hp) : List (D × D) → List (Key × V) → Prop
 | [], ws => ws = []
 | (k, d) :: r, ws => ∃ k' v t, ws = (k', v) :: t ∧ kD k = some k' ∧ Rep K rho H d v ∧ KvRep rho H r t
noncomputable def hashD (w : World) : Nat → D → Int
 | _, .int i => hashInt i
 | _, .str x => hashStr w x
 | n + 1, .tup ds => reduceHash (Builtin.Tuple.tupleHashOf (ds.map (hashD w n)))
 | _, _ => 0
def NDict (w : World) (a : Addr) (xs : List (D × Addr × V)) : Heap → Prop := fun h => (a == sysModules) = false ∧ xs.length ≤ sizeLine ∧ (xs.map (·.1)).Nodup ∧ ∃ o es ep, h.get? a = some o ∧ o.ExactDict ∧ o.data = .dict es ep ∧
 Paired (fun (x : D × Addr × V) (e : DictEntry) => e.hash = hashD w 8 x.1 ∧ e.key = .ref x.2.1 ∧ RelV x.2.2 e.val) xs es.toList
def NvRep (rho : List Addr) (H : Hp) : List (D × D) → List (D × Addr × V) → Prop
 | [], ws => ws = []
 | (k, d) :: r, ws => ∃ b v t, ws = (k, b, v) :: t ∧ keyN k = true ∧ Rep K rho H k (.ref b) ∧ Rep K rho H d v ∧ NvRep rho H r t
def FrzAt (H : Hp) (a : Addr) (xs : List V) : Prop := (∃ o, H a = some (.frz o (.lst xs))) ∨
    ∃ (o : Obj) (its : Array Value) (n : Nat), K.lookup a = some o ∧ o.cls = .type "list" ∧ o.dict = none ∧ o.data = .seq its n ∧ its.size ≤ sizeLine ∧ Vals xs its.toList
noncomputable def trk : Cell → Bool
 | .frz _ => false
 | _ => true
def CellRep (rho : List Addr) (H : Hp) (a : Addr) : Cell → Prop
 | .lst ds => ∃ vs, H a = some (.lst vs) ∧ RepL K rho H ds vs
 | .frz ds => ∃ vs, FrzAt K H a vs ∧ RepL K rho H ds vs
 | .dct kvs => ∃ ws, H a = some (.dK ws) ∧ KvRep K rho H kvs ws
 | .dcn kvs => ∃ xs, H a = some (.ext (NDict cls.w a xs)) ∧ NvRep K rho H kvs xs
 | .dcf kvs => ∃ ws o, H a = some (.frz o (.dK ws)) ∧ KvRep K rho H kvs ws
 | .fnc _ => False
 | .ins c fs => ∃ dx ws, H a = some (.ins (cls c) dx ws) ∧ ws.length = fs.length ∧ FsRep K rho H fs ws
 | .exn c => H a = some (.ext (ExcIs a (.ref (cls c))))
structure StoRep (rho : List Addr) (st : Sto) (H : Hp) : Prop where
 len : rho.length = st.length
 nd : ∀ (n m : Nat) (a : Addr) (c d : Cell), rho[n]? = some a → rho[m]? = some a → st[n]? = some c → st[m]? = some d → trk c = true → trk d = true → n = m
 cells : ∀ (n : Nat) (a : Addr) (c : Cell), rho[n]? = some a → st[n]? = some c → CellRep K cls rho H a c
structure EnvRep (rho : List Addr) (H : Hp) (env : Env) (sg : St) : Prop where
 len : env.length = sg.length
 val : ∀ (i : Nat) (d : D), env[i]? = some (some d) → ∃ v, sg[i]? = some (some v) ∧ Rep K rho H d v
variable {K cls}
theorem FsRep.mono {r1 r2 : List Addr} {H1 H2 : Hp} (k : Keep K r1 H1 r2 H2) {fs : List (Str × D)} {ws : List (Str × V)} (h : FsRep K r1 H1 fs ws) : FsRep K r2 H2 fs ws := fun f => by
 have q := h f
 revert q
 cases fs.lookup f <;> cases ws.lookup f <;> intro q <;> first | trivial | exact q.elim | exact Rep.mono k q
theorem KvRep.mono {r1 r2 : List Addr} {H1 H2 : Hp} (k : Keep K r1 H1 r2 H2) : ∀ {kvs : List (D × D)} {ws : List (Key × V)}, KvRep K r1 H1 kvs ws → KvRep K r2 H2 kvs ws
 | [], ws, h => by simpa [KvRep] using h
 | (x, d) :: r, ws, h => by
  simp only [KvRep] at h ⊢
  obtain ⟨k', v, t, e, p, q, w⟩ := h
  exact ⟨k', v, t, e, p, Rep.mono k q, KvRep.mono k w⟩
theorem NvRep.mono {r1 r2 : List Addr} {H1 H2 : Hp} (k : Keep K r1 H1 r2 H2) : ∀ {kvs : List (D × D)} {ws : List (D × Addr × V)}, NvRep K r1 H1 kvs ws → NvRep K r2 H2 kvs ws
 | [], ws, h => by simpa [NvRep] using h
 | (x, d) :: r, ws, h => by
  simp only [NvRep] at h ⊢
  obtain ⟨b, v, t, e, p, q, u, w⟩ := h
  exact ⟨b, v, t, e, p, Rep.mono k q, Rep.mono k u, NvRep.mono k w⟩
theorem CellRep.stay {r1 r2 : List Addr} {H1 H2 : Hp} (k : Keep K r1 H1 r2 H2) {a : Addr} {c : Cell} (h : CellRep K cls r1 H1 a c) (e : ∀ o, H1 a = some o → H2 a = some o) : CellRep K cls r2 H2 a c := by
 cases c with
 | lst ds => obtain ⟨vs, p, q⟩ := h; exact ⟨vs, e _ p, q.mono k⟩
 | frz ds =>
  obtain ⟨vs, p, q⟩ := h
  refine ⟨vs, ?_, q.mono k⟩
  rcases p with ⟨o, p⟩ | p
  · exact .inl ⟨o, e _ p⟩
  · exact .inr p
 | dct kvs => obtain ⟨ws, p, q⟩ := h; exact ⟨ws, e _ p, q.mono k⟩
 | dcn kvs => obtain ⟨ws, p, q⟩ := h; exact ⟨ws, e _ p, q.mono k⟩
 | dcf kvs => obtain ⟨ws, o, p, q⟩ := h; exact ⟨ws, o, e _ p, q.mono k⟩
 | fnc i => exact h.elim
 | ins c fs => obtain ⟨dx, ws, p, l, q⟩ := h; exact ⟨dx, ws, e _ p, l, q.mono k⟩
 | exn c => exact e _ h
theorem CellRep.some {r : List Addr} {H : Hp} {a : Addr} {c : Cell} (h : CellRep K cls r H a c) (t : trk c = true) : ∃ o, H a = some o := by
 cases c with
 | lst ds => obtain ⟨vs, p, q⟩ := h; exact ⟨_, p⟩
 | frz ds => cases t
 | dct kvs => obtain ⟨ws, p, q⟩ := h; exact ⟨_, p⟩
 | dcn kvs => obtain ⟨ws, p, q⟩ := h; exact ⟨_, p⟩
 | dcf kvs => obtain ⟨ws, o, p, q⟩ := h; exact ⟨_, p⟩
 | fnc i => exact h.elim
 | ins c fs => obtain ⟨dx, ws, p, q⟩ := h; exact ⟨_, p⟩
 | exn c => exact ⟨_, h⟩
theorem StoRep.same {rho : List Addr} {st : Sto} {H H' : Hp} (s : StoRep K cls rho st H) (e : Same H H') : StoRep K cls rho st H' :=
 ⟨s.len, s.nd, fun n a c p q => (s.cells n a c p q).stay (Same.keep e rho) (fun o h => e _ _ h)⟩
theorem EnvRep.mono {r1 r2 : List Addr} {H1 H2 : Hp} (k : Keep K r1 H1 r2 H2) {env : Env} {sg : St} (h : EnvRep K r1 H1 env sg) : EnvRep K r2 H2 env sg :=
 ⟨h.len, fun i d e => let ⟨v, p, q⟩ := h.val i d e; ⟨v, p, q.mono k⟩⟩
theorem EnvRep.set {rho : List Addr} {H : Hp} {env : Env} {sg : St} (h : EnvRep K rho H env sg) (i : Nat) {d : D} {v : V} (r : Rep K rho H d v) : EnvRep K rho H (env.set i (some d)) (sg.set i (some v)) := by
 refine ⟨by simp [h.len], fun j x e => ?_⟩
 rw [List.getElem?_set] at e ⊢
 have hl := h.len
 by_cases ij : i = j
 · subst ij
   rw [if_pos rfl] at e ⊢
   by_cases hi : i < env.length
   · rw [if_pos hi] at e
     rw [if_pos (by omega)]
     cases e
     exact ⟨v, rfl, r⟩
   · rw [if_neg hi] at e; cases e
 · rw [if_neg ij] at e ⊢
   exact h.val j x e
theorem StoRep.laid {rho : List Addr} {st : Sto} {H : Hp} (s : StoRep K cls rho st H) {p : Addr} {o : HO} {c : Cell} (hp : H p = none) (hc : CellRep K cls (rho ++ [p]) (upd H p o) p c) :
    Keep K rho H (rho ++ [p]) (upd H p o) ∧ StoRep K cls (rho ++ [p]) (st ++ [c]) (upd H p o) := by
  have e := same_upd hp o
  have k : Keep K rho H (rho ++ [p]) (upd H p o) := ⟨⟨[p], rfl⟩, (Same.keep e rho).tup, (Same.keep (K := K) e rho).fz⟩
  have old : ∀ (n : Nat) (x : Cell), rho[n]? = some p → st[n]? = some x → trk x = true → False := fun n x h1 h2 ht => by
    obtain ⟨u, hu⟩ := (s.cells n p x h1 h2).some ht
    rw [hp] at hu; cases hu
  have at_lt : ∀ (n : Nat) (a : Addr) (x : Cell), (rho ++ [p])[n]? = some a → (st ++ [c])[n]? = some x → (n < rho.length ∧ rho[n]? = some a ∧ st[n]? = some x) ∨ (n = rho.length ∧ a = p ∧ x = c) := fun n a x h1 h2 => by
    by_cases hn : n < rho.length
    · rw [List.getElem?_append_left hn] at h1
      rw [List.getElem?_append_left (by rw [← s.len]; exact hn)] at h2
      exact .inl ⟨hn, h1, h2⟩
    · have hn' : n = rho.length := by
        have := (List.getElem?_eq_some_iff.mp h1).1
        simp at this; omega
      subst hn'
      rw [List.getElem?_append_right (Nat.le_refl _)] at h1
      rw [s.len, List.getElem?_append_right (Nat.le_refl _)] at h2
      simp at h1 h2
      exact .inr ⟨rfl, h1.symm, h2.symm⟩
  refine ⟨k, by simp [s.len], fun n m a x y h1 h2 h3 h4 t1 t2 => ?_, fun n a x h1 h2 => ?_⟩
  · rcases at_lt n a x h1 h3 with ⟨_, g1, g2⟩ | ⟨e1, e2, e3⟩
    · rcases at_lt m a y h2 h4 with ⟨_, g3, g4⟩ | ⟨f1, f2, f3⟩
      · exact s.nd n m a x y g1 g3 g2 g4 t1 t2
      · subst f2; exact (old n x g1 g2 t1).elim
    · rcases at_lt m a y h2 h4 with ⟨_, g3, g4⟩ | ⟨f1, f2, f3⟩
      · subst e2; exact (old m y g3 g4 t2).elim
      · omega
  · rcases at_lt n a x h1 h2 with ⟨_, g1, g2⟩ | ⟨e1, e2, e3⟩
    · exact (s.cells n a x g1 g2).stay k fun u hu => e _ _ hu
    · subst e2 e3; exact hc
theorem StoRep.wroteC {rho : List Addr} {st : Sto} {H : Hp} (s : StoRep K cls rho st H) {n : Nat} {a : Addr} {o0 o : HO} {c0 c1 : Cell} (ha : rho[n]? = some a) (hl0 : st[n]? = some c0) (ht0 : trk c0 = true) (hH : H a = some o0) (hno : (∀ xs, o0 ≠ .tup xs) ∧ ∀ u x, o0 ≠ .frz u x) (hc : ∀ H2, H2 a = some o → Keep K rho H rho H2 → CellRep K cls rho H2 a c1) :
    Keep K rho H rho (upd H a o) ∧ StoRep K cls rho (st.set n c1) (upd H a o) := by
  have k : Keep K rho H rho (upd H a o) := ⟨⟨[], by simp⟩, fun b xs h => by
    rcases h with h | h
    · rcases h with h | ⟨o, h⟩
      · exact .inl (.inl (by rw [upd_ne (ne_of h hH (fun z => hno.1 _ z.symm))]; exact h))
      · exact .inl (.inr ⟨o, by rw [upd_ne (ne_of h hH (fun z => hno.2 _ _ z.symm))]; exact h⟩)
    · exact .inr h, fun b u ws h => by rw [upd_ne (ne_of h hH (fun z => hno.2 _ _ z.symm))]; exact h⟩
  refine ⟨k, by simp [s.len], fun m1 m2 b c d h1 h2 h3 h4 t1 t2 => ?_, fun m b c h1 h2 => ?_⟩
  · have tr : ∀ (m : Nat) (c : Cell), (st.set n c1)[m]? = some c → trk c = true → rho[m]? = some b → ∃ c', st[m]? = some c' ∧ trk c' = true := fun m c h t hr => by
      rw [List.getElem?_set] at h
      by_cases e : n = m
      · subst e
        rw [ha] at hr; cases hr
        exact ⟨_, hl0, ht0⟩
      · rw [if_neg e] at h; exact ⟨c, h, t⟩
    obtain ⟨c1, e1, f1⟩ := tr m1 c h3 t1 h1
    obtain ⟨c2, e2, f2⟩ := tr m2 d h4 t2 h2
    exact s.nd m1 m2 b c1 c2 h1 h2 e1 e2 f1 f2
  rw [List.getElem?_set] at h2
  by_cases e : n = m
  · subst e
    rw [if_pos rfl] at h2
    rw [ha] at h1; cases h1
    by_cases hl : n < st.length
    · rw [if_pos hl] at h2; cases h2
      exact hc _ upd_same k
    · rw [if_neg hl] at h2; cases h2
  · rw [if_neg e] at h2
    cases ht : trk c with
    | true =>
      have hne : b ≠ a := fun z => by
        subst z
        exact e (s.nd n m b _ c ha h1 hl0 h2 ht0 ht)
      exact (s.cells m b c h1 h2).stay k fun o ho => by rw [upd_ne hne]; exact ho
    | false =>
      cases c with
      | frz xs =>
        obtain ⟨us, p, q⟩ := s.cells m b (.frz xs) h1 h2
        refine ⟨us, ?_, q.mono k⟩
        rcases p with ⟨o, p⟩ | p
        · exact .inl ⟨o, by rw [upd_ne (ne_of p hH (fun z => hno.2 _ _ z.symm))]; exact p⟩
        · exact .inr p
      | _ => cases ht
theorem StoRep.wrote {rho : List Addr} {st : Sto} {H : Hp} (s : StoRep K cls rho st H) {n : Nat} {a : Addr} {vs ws : List V} {ds ds0 : List D} (ha : rho[n]? = some a) (hl0 : st[n]? = some (.lst ds0)) (hH : H a = some (.lst vs)) (hd : RepL K rho H ds ws) :
    Keep K rho H rho (upd H a (.lst ws)) ∧ StoRep K cls rho (st.set n (.lst ds)) (upd H a (.lst ws)) :=
  s.wroteC ha hl0 rfl hH ⟨fun _ => nofun, fun _ _ => nofun⟩ fun H2 e k => ⟨ws, e, hd.mono k⟩
end
end DD
namespace DD
open PySem PySem.Spec L2
structure G where
 K : PySem.W.Frag
 cls : CW
 tab : Nat → Ty → Option Bool
 call : Or
 xk : XK
variable (g : G)
abbrev G.Rep := DD.Rep g.K
abbrev G.RepL := DD.RepL g.K
abbrev G.Keep := DD.Keep g.K
abbrev G.Sto := DD.StoRep g.K g.cls
abbrev G.Env := DD.EnvRep g.K
def RQ {α : Type} (r : Res α) (ok : α → Sto → Prop) (rho : List Addr) (H : Hp) : Prop := match r with
 | .ok a st => ok a st
 | .exc c st => ∀ H' rho', g.Keep rho H rho' H' → g.Sto rho' st H' → g.xk (.ref (g.cls c)) none H'
 | .bad => False
def Post (rho : List Addr) (H : Hp) (Q : VK) (d : D) (st : Sto) : Prop := ∀ v H' rho', g.Keep rho H rho' H' → g.Sto rho' st H' → g.Rep rho' H' d v → Q v H'
def PostL (rho : List Addr) (H : Hp) (Q : List V → Hp → Prop) (d : List D) (st : Sto) : Prop := ∀ v H' rho', g.Keep rho H rho' H' → g.Sto rho' st H' → g.RepL rho' H' d v → Q v H'
def PostB (rho : List Addr) (H : Hp) (Q : Bool → Hp → Prop) (b : Bool) (st : Sto) : Prop := ∀ H' rho', g.Keep rho H rho' H' → g.Sto rho' st H' → Q b H'
noncomputable def tE (e : E) : TE := fun sg H Q => ∃ rho st env, g.Sto rho st H ∧ g.Env rho H env sg ∧ RQ g (evalE g.tab g.call e env st) (Post g rho H Q) rho H
noncomputable def tEs (e : Es) : TA := fun sg H Q => ∃ rho st env, g.Sto rho st H ∧ g.Env rho H env sg ∧ RQ g (evalEs g.tab g.call e env st) (PostL g rho H Q) rho H
noncomputable def tT (e : E) : TT := fun sg H Q => ∃ rho st env, g.Sto rho st H ∧ g.Env rho H env sg ∧ RQ g (evalT g.tab g.call e env st) (PostB g rho H Q) rho H
variable {g}
theorem RQ.bad {α : Type} {ok : α → Sto → Prop} {rho : List Addr} {H : Hp} (h : RQ g (.bad : Res α) ok rho H) : False := h
theorem RQ.mono {α : Type} {r : Res α} {ok ok' : α → Sto → Prop} {rho rho' : List Addr} {H H' : Hp} (k : g.Keep rho H rho' H') (h : RQ g r ok rho H) (ho : ∀ a st, ok a st → ok' a st) : RQ g r ok' rho' H' := by
 cases r with
 | ok a st => exact ho _ _ h
 | exc c st => exact fun H2 r2 k2 s2 => h H2 r2 (k.trans k2) s2
 | bad => exact h
theorem Post.mono {rho rho' : List Addr} {H H' : Hp} {Q : VK} (k : g.Keep rho H rho' H') {d : D} {st : Sto} (h : Post g rho H Q d st) : Post g rho' H' Q d st := fun v H2 r2 k2 => h v H2 r2 (k.trans k2)
theorem PostB.mono {rho rho' : List Addr} {H H' : Hp} {Q : Bool → Hp → Prop} (k : g.Keep rho H rho' H') {d : Bool} {st : Sto} (h : PostB g rho H Q d st) : PostB g rho' H' Q d st := fun H2 r2 k2 => h H2 r2 (k.trans k2)
theorem step {β : Type} {e : E} {env : Env} {sg : St} {st : Sto} {rho : List Addr} {H : Hp} {k : D → Sto → Res β} {ok : β → Sto → Prop} {Q : VK} (s : g.Sto rho st H) (n : g.Env rho H env sg)
    (h : RQ g ((evalE g.tab g.call e env st).bind k) ok rho H)
    (hk : ∀ d st1 v H1 rho1, g.Keep rho H rho1 H1 → g.Sto rho1 st1 H1 → g.Env rho1 H1 env sg → g.Rep rho1 H1 d v → RQ g (k d st1) ok rho1 H1 → Q v H1) : tE g e sg H Q := by
  refine ⟨rho, st, env, s, n, ?_⟩
  revert h
  cases evalE g.tab g.call e env st with
  | ok d st1 => exact fun h v H1 r1 k1 s1 rp => hk d st1 v H1 r1 k1 s1 (n.mono k1) rp (RQ.mono k1 h fun _ _ x => x)
  | exc c st1 => exact fun h => h
  | bad => exact fun h => h
theorem stepL {β : Type} {e : Es} {env : Env} {sg : St} {st : Sto} {rho : List Addr} {H : Hp} {k : List D → Sto → Res β} {ok : β → Sto → Prop} {Q : List V → Hp → Prop} (s : g.Sto rho st H) (n : g.Env rho H env sg)
    (h : RQ g ((evalEs g.tab g.call e env st).bind k) ok rho H)
    (hk : ∀ d st1 v H1 rho1, g.Keep rho H rho1 H1 → g.Sto rho1 st1 H1 → g.Env rho1 H1 env sg → g.RepL rho1 H1 d v → RQ g (k d st1) ok rho1 H1 → Q v H1) : tEs g e sg H Q := by
  refine ⟨rho, st, env, s, n, ?_⟩
  revert h
  cases evalEs g.tab g.call e env st with
  | ok d st1 => exact fun h v H1 r1 k1 s1 rp => hk d st1 v H1 r1 k1 s1 (n.mono k1) rp (RQ.mono k1 h fun _ _ x => x)
  | exc c st1 => exact fun h => h
  | bad => exact fun h => h
theorem stepT {β : Type} {e : E} {env : Env} {sg : St} {st : Sto} {rho : List Addr} {H : Hp} {k : Bool → Sto → Res β} {ok : β → Sto → Prop} {Q : Bool → Hp → Prop} (s : g.Sto rho st H) (n : g.Env rho H env sg)
    (h : RQ g ((evalT g.tab g.call e env st).bind k) ok rho H)
    (hk : ∀ d st1 H1 rho1, g.Keep rho H rho1 H1 → g.Sto rho1 st1 H1 → g.Env rho1 H1 env sg → RQ g (k d st1) ok rho1 H1 → Q d H1) : tT g e sg H Q := by
  refine ⟨rho, st, env, s, n, ?_⟩
  revert h
  cases evalT g.tab g.call e env st with
  | ok d st1 => exact fun h H1 r1 k1 s1 => hk d st1 H1 r1 k1 s1 (n.mono k1) (RQ.mono k1 h fun _ _ x => x)
  | exc c st1 => exact fun h => h
  | bad => exact fun h => h
variable {X : Cx} {a b c : Expr} {a' b' c' : E} {pos : Pos}
def Sd (g : G) (X : Cx) (e : Expr) (e' : E) : Prop := PE X e (tE g e')
def SdT (g : G) (X : Cx) (e : Expr) (e' : E) : Prop := PT X e (tT g e')
def SdL (g : G) (X : Cx) (es : List Expr) (es' : Es) : Prop := PA X es (tEs g es')
theorem pe_imp {t t' : TE} {e : Expr} (h : PE X e t) (hi : ∀ sg H Q, t' sg H Q → t sg H Q) : PE X e t' := fun pins s sg H Q I q => h pins s sg H Q I (hi _ _ _ q)
theorem pt_imp {t t' : TT} {e : Expr} (h : PT X e t) (hi : ∀ sg H Q, t' sg H Q → t sg H Q) : PT X e t' := fun pins s sg H Q I q => h pins s sg H Q I (hi _ _ _ q)
theorem pa_imp {t t' : TA} {e : List Expr} (h : PA X e t) (hi : ∀ sg H Q, t' sg H Q → t sg H Q) : PA X e t' := fun pos pins s sg H Q I q => h pos pins s sg H Q I (hi _ _ _ q)
theorem sd_var (i : Nat) {x : Str} {pos : Pos} (h : PE X (.Name x pos) (tVar i)) : Sd g X (.Name x pos) (.var i) := pe_imp h fun sg H Q q => by
 obtain ⟨rho, st, env, s, n, q⟩ := q
 simp only [evalE] at q
 cases e : getV env i with
 | none => rw [e] at q; exact q.elim
 | some d =>
  rw [e] at q
  have e' : env[i]? = some (some d) := by
   unfold getV at e
   cases z : env[i]? with
   | none => rw [z] at e; cases e
   | some o => rw [z] at e; cases o with
    | none => cases e
    | some y => cases e; rfl
  obtain ⟨v, e1, r⟩ := n.val i d e'
  exact ⟨v, e1, q v H rho (.refl _ _) s r⟩
theorem sd_cst {e : Expr} {v : V} {d : D} (h : PE X e (tC v)) (hr : ∀ rho H, g.Rep rho H d v) : Sd g X e (.cst d) := pe_imp h fun sg H Q q => by
 obtain ⟨rho, st, env, s, n, q⟩ := q
 exact q v H rho (.refl _ _) s (hr _ _)
theorem sd_int {i j pos} : Sd g X (.Constant (.int i) j pos) (.cst (.int i)) := sd_cst pe_int fun _ _ => by simp [Rep]
theorem sd_bl {i j pos} : Sd g X (.Constant (.bool i) j pos) (.cst (.bl i)) := sd_cst pe_bl fun _ _ => by simp [Rep]
theorem sd_non {j pos} : Sd g X (.Constant .none j pos) (.cst .non) := sd_cst pe_non fun _ _ => by simp [Rep]
theorem sd_str {x j pos} : Sd g X (.Constant (.str x) j pos) (.cst (.str x)) := sd_cst pe_str fun _ _ => by simp [Rep]
theorem sdl_nil : SdL g X [] .nil := pa_imp pa_nil fun sg H Q q => by
 obtain ⟨rho, st, env, s, n, q⟩ := q
 exact q [] H rho (.refl _ _) s (by simp [RepL])
theorem sdl_cons {e : Expr} {es : List Expr} {e' : E} {es' : Es} (h : Sd g X e e') (t : SdL g X es es') (hs : starEach (e :: es) X.env = (false, eval e X.env) :: starEach es X.env := by rfl) : SdL g X (e :: es) (.cons e' es') :=
 pa_imp (pa_cons h t hs) fun sg H Q q => by
  obtain ⟨rho, st, env, s, n, q⟩ := q
  simp only [evalEs] at q
  refine step s n q fun d st1 v H1 r1 k1 s1 n1 rp q1 => ?_
  refine stepL s1 n1 q1 fun ds st2 vs H2 r2 k2 s2 n2 rps q2 => ?_
  have q2 : PostL g rho H Q (d :: ds) st2 := q2
  exact q2 (v :: vs) H2 r2 (k1.trans k2) s2 (by simp only [RepL]; exact ⟨v, vs, rfl, rp.mono k2, rps⟩)
theorem sd_tup {es : List Expr} {es' : Es} {x1} (h : SdL g X es es') : Sd g X (.Tuple es x1 pos) (.tupE es') := pe_imp (pe_tup h) fun sg H Q q => by
 obtain ⟨rho, st, env, s, n, q⟩ := q
 simp only [evalE] at q
 refine stepL s n q fun ds st1 vs H1 r1 k1 s1 n1 rps q1 => ?_
 have hl := rps.length
 by_cases z : ds.length ≤ sizeLine
 · rw [if_pos z] at q1
   refine ⟨by omega, fun p hp => ?_⟩
   have q1 : Post g rho H Q (.tup ds) st1 := q1
   have e := same_upd hp (.tup vs)
   refine q1 (.ref p) _ r1 (k1.trans (Same.keep e r1)) (s1.same e) ?_
   simp only [Rep]
   exact ⟨p, vs, rfl, SqT.of upd_same, rps.mono (Same.keep e r1)⟩
 · rw [if_neg z] at q1; exact q1.elim
theorem sd_lst {es : List Expr} {es' : Es} (h : SdL g X es es') : Sd g X (.List es pos) (.lstE es') := pe_imp (pe_lst h) fun sg H Q q => by
 obtain ⟨rho, st, env, s, n, q⟩ := q
 simp only [evalE] at q
 refine stepL s n q fun ds st1 vs H1 r1 k1 s1 n1 rps q1 => ?_
 have hl := rps.length
 by_cases z : ds.length ≤ sizeLine
 · rw [if_pos z] at q1
   refine ⟨by omega, fun p hp => ?_⟩
   have q1 : Post g rho H Q (.loc st1.length) (st1 ++ [.lst ds]) := q1
   have e := same_upd hp (.lst vs)
   have kk : g.Keep r1 H1 (r1 ++ [p]) (upd H1 p (.lst vs)) := ⟨⟨[p], rfl⟩, (Same.keep e r1).tup, (Same.keep (K := g.K) e r1).fz⟩
   obtain ⟨k2, s2⟩ := s1.laid hp (o := .lst vs) (c := .lst ds) ⟨vs, upd_same, rps.mono kk⟩
   refine q1 (.ref p) _ _ (k1.trans k2) s2 ?_
   simp only [Rep]
   exact ⟨p, by rw [← s1.len]; simp, rfl⟩
 · rw [if_neg z] at q1; exact q1.elim
theorem two {o : V → V → Hp → VK → Prop} {k : D → D → Sto → Res D} (hop : ∀ x y u v st rho H Q, g.Sto rho st H → g.Rep rho H x u → g.Rep rho H y v → RQ g (k x y st) (Post g rho H Q) rho H → o u v H Q)
    {sg : St} {H : Hp} {Q : VK} {rho : List Addr} {st : Sto} {env : Env} (s : g.Sto rho st H) (n : g.Env rho H env sg)
    (q : RQ g ((evalE g.tab g.call a' env st).bind fun x st => (evalE g.tab g.call b' env st).bind fun y st => k x y st) (Post g rho H Q) rho H) : tOp o (tE g a') (tE g b') sg H Q := by
  refine step s n q fun x st1 u H1 r1 k1 s1 n1 rp q1 => ?_
  refine step s1 n1 q1 fun y st2 v H2 r2 k2 s2 n2 rp2 q2 => ?_
  exact hop x y u v st2 r2 H2 Q s2 (rp.mono k2) rp2 (RQ.mono (.refl _ _) q2 fun d st p => p.mono (k1.trans k2))
end DD
namespace DD
open PySem PySem.Spec L2
variable {g : G} {X : Cx} {a b c : Expr} {a' b' c' : E} {pos : Pos}
theorem big_bits {i : Int} (h : i.natAbs < BIG) : Builtin.Int.intBits i ≤ 4000 := by
 unfold Builtin.Int.intBits
 split
 · omega
 · rename_i h0
   have hz : i.natAbs ≠ 0 := by
    intro z; apply h0; simp [Int.natAbs_eq_zero.mp z]
   have : i.natAbs.log2 < 4000 := (Nat.log2_lt hz).mpr h
   omega
theorem mulOk.ok {i j : Int} (h : mulOk i j) : IntMulOk i j := by
 rcases h with h | h | h
 · exact .of_left (intBits_le_64 h.1 h.2)
 · exact .of_right (intBits_le_64 h.1 h.2)
 · exact IntMulOk.of_bits (Nat.le_trans (big_bits h.1) (by decide)) (Nat.le_trans (big_bits h.2) (by decide))
theorem divOk.py {i j : Int} (h : divOk j) : Builtin.divisionGoesByPylong i j = false := by
 refine PyProof.noPylong_of_log2 ?_
 have hz : j.natAbs ≠ 0 := fun z => h.1 (Int.natAbs_eq_zero.mp z)
 have : j.natAbs.log2 < 4000 := (Nat.log2_lt hz).mpr h.2
 omega
theorem op_mulG : OpR X (binaryOp .Mult) (rI (fun i j => mulOk i j) fun i j => .int (i * j)) := opI fun _ _ _ _ _ _ _ hc q => PyProof.Rows.mul_int q hc.ok
theorem op_fdivG : OpR X (binaryOp .FloorDiv) (rI (fun _ j => divOk j) fun i j => .int (i.fdiv j)) := opI fun _ _ _ _ _ _ _ hc q => PyProof.Rows.floordiv_int hc.1 q (.inl hc.py)
theorem rep_int {rho : List Addr} {H : Hp} {i : Int} {v : V} : g.Rep rho H (.int i) v ↔ v = .int i := by simp [Rep]
theorem rep_bl {rho : List Addr} {H : Hp} {i : Bool} {v : V} : g.Rep rho H (.bl i) v ↔ v = .bl i := by simp [Rep]
theorem rep_non {rho : List Addr} {H : Hp} {v : V} : g.Rep rho H .non v ↔ v = .non := by simp [Rep]
theorem rep_str {rho : List Addr} {H : Hp} {x : Str} {v : V} : g.Rep rho H (.str x) v ↔ v = .str x := by simp [Rep]
theorem rep_loc {rho : List Addr} {H : Hp} {n : Nat} {v : V} : g.Rep rho H (.loc n) v ↔ ∃ a, rho[n]? = some a ∧ v = .ref a := by simp [Rep]
theorem rep_tup {rho : List Addr} {H : Hp} {ds : List D} {v : V} : g.Rep rho H (.tup ds) v ↔ ∃ a vs, v = .ref a ∧ SqT g.K H a vs ∧ g.RepL rho H ds vs := by simp [Rep]
theorem sto_lst {rho : List Addr} {st : Sto} {H : Hp} (s : g.Sto rho st H) {n : Nat} {ds : List D} (h : st[n]? = some (.lst ds)) : ∃ a vs, rho[n]? = some a ∧ H a = some (.lst vs) ∧ g.RepL rho H ds vs := by
 have hl : n < rho.length := by rw [s.len]; exact (List.getElem?_eq_some_iff.mp h).1
 obtain ⟨vs, p, q⟩ := s.cells n rho[n] (.lst ds) (List.getElem?_eq_getElem hl) h
 exact ⟨_, vs, List.getElem?_eq_getElem hl, p, q⟩
theorem sto_seq {rho : List Addr} {st : Sto} {H : Hp} (s : g.Sto rho st H) {n : Nat} {ds : List D} (h : lstOf st n = some ds) : ∃ a vs, rho[n]? = some a ∧ SqL g.K H a vs ∧ g.RepL rho H ds vs := by
 unfold lstOf at h
 split at h
 · rename_i xs e
   cases h
   obtain ⟨a, vs, p, q, r⟩ := sto_lst s e
   exact ⟨a, vs, p, SqL.of q, r⟩
 · rename_i xs e
   cases h
   have hl : n < rho.length := by rw [s.len]; exact (List.getElem?_eq_some_iff.mp e).1
   obtain ⟨vs, p, q⟩ := s.cells n rho[n] (.frz ds) (List.getElem?_eq_getElem hl) e
   exact ⟨_, vs, List.getElem?_eq_getElem hl, p.elim (fun ⟨o, p⟩ => .inl (.inr ⟨o, p⟩)) .inr, q⟩
 · cases h
theorem new_lst {rho : List Addr} {st : Sto} {H : Hp} (s : g.Sto rho st H) {ds : List D} {vs : List V} (r : g.RepL rho H ds vs) {p : Addr} (hp : H p = none) {Q : VK} (q : Post g rho H Q (.loc st.length) (st ++ [.lst ds])) : Q (.ref p) (upd H p (.lst vs)) := by
 have e := same_upd hp (.lst vs)
 have kk : g.Keep rho H (rho ++ [p]) (upd H p (.lst vs)) := ⟨⟨[p], rfl⟩, (Same.keep e rho).tup, (Same.keep (K := g.K) e rho).fz⟩
 obtain ⟨k2, s2⟩ := s.laid hp (o := .lst vs) (c := .lst ds) ⟨vs, upd_same, r.mono kk⟩
 refine q (.ref p) _ _ k2 s2 (rep_loc.mpr ⟨p, by rw [← s.len]; simp, rfl⟩)
theorem sd_add (ha : Sd g X a a') (hb : Sd g X b b') : Sd g X (.BinOp a .Add b pos) (.op .add a' b') := pe_imp (pe_op (OpR.or op_add (OpR.or op_cat op_add_str)) ha hb) fun sg H Q q => by
 obtain ⟨rho, st, env, s, n, q⟩ := q
 simp only [evalE] at q
 refine two (k := opD .add) ?_ s n q
 intro x y u v st rho H Q s rx ry q
 cases x with
 | int i =>
  cases y with
  | int j => exact .inl ⟨i, j, rep_int.mp rx, rep_int.mp ry, q _ H rho (.refl _ _) s (rep_int.mpr rfl)⟩
  | _ => exact q.elim
 | loc i =>
  cases y with
  | loc j =>
   simp only [opD] at q
   split at q
   · rename_i xs ys e1 e2
     split at q
     · rename_i z
       obtain ⟨p1, v1, a1, h1, r1⟩ := sto_lst s e1
       obtain ⟨p2, v2, a2, h2, r2⟩ := sto_lst s e2
       obtain ⟨b1, c1, d1⟩ := rep_loc.mp rx
       obtain ⟨b2, c2, d2⟩ := rep_loc.mp ry
       rw [a1] at c1; cases c1
       rw [a2] at c2; cases c2
       exact .inr (.inl ⟨p1, p2, v1, v2, d1, d2, h1, h2, by rw [← r1.length, ← r2.length]; exact z, fun p hp => new_lst s (r1.append r2) hp q⟩)
     · exact q.elim
   · exact q.elim
  | _ => exact q.elim
 | str i =>
  cases y with
  | str j =>
   simp only [opD] at q
   split at q
   · rename_i z
     exact .inr (.inr ⟨i, j, rep_str.mp rx, rep_str.mp ry, z, q _ H rho (.refl _ _) s (rep_str.mpr rfl)⟩)
   · exact q.elim
  | _ => exact q.elim
 | _ => exact q.elim
theorem sd_sub (ha : Sd g X a a') (hb : Sd g X b b') : Sd g X (.BinOp a .Sub b pos) (.op .sub a' b') := pe_imp (pe_op op_sub ha hb) fun sg H Q q => by
 obtain ⟨rho, st, env, s, n, q⟩ := q
 simp only [evalE] at q
 refine two (k := opD .sub) ?_ s n q
 intro x y u v st rho H Q s rx ry q
 cases x with
 | int i =>
  cases y with
  | int j => exact ⟨i, j, rep_int.mp rx, rep_int.mp ry, q _ H rho (.refl _ _) s (rep_int.mpr rfl)⟩
  | _ => exact q.elim
 | _ => exact q.elim
theorem sd_mul (hK : X.K = g.K) (ha : Sd g X a a') (hb : Sd g X b b') : Sd g X (.BinOp a .Mult b pos) (.op .mul a' b') := pe_imp (pe_op op_mulG ha hb) fun sg H Q q => by
 obtain ⟨rho, st, env, s, n, q⟩ := q
 simp only [evalE] at q
 refine two (k := opD .mul) ?_ s n q
 intro x y u v st rho H Q s rx ry q
 cases x with
 | int i =>
  cases y with
  | int j =>
   simp only [opD] at q
   split at q
   · rename_i z
     exact ⟨i, j, rep_int.mp rx, rep_int.mp ry, z, q _ H rho (.refl _ _) s (rep_int.mpr rfl)⟩
   · exact q.elim
  | _ => exact q.elim
 | _ => exact q.elim
theorem sd_fdiv (ha : Sd g X a a') (hb : Sd g X b b') : Sd g X (.BinOp a .FloorDiv b pos) (.op .fdiv a' b') := pe_imp (pe_op op_fdivG ha hb) fun sg H Q q => by
 obtain ⟨rho, st, env, s, n, q⟩ := q
 simp only [evalE] at q
 refine two (k := opD .fdiv) ?_ s n q
 intro x y u v st rho H Q s rx ry q
 cases x with
 | int i =>
  cases y with
  | int j =>
   simp only [opD] at q
   split at q
   · rename_i z
     exact ⟨i, j, rep_int.mp rx, rep_int.mp ry, z, q _ H rho (.refl _ _) s (rep_int.mpr rfl)⟩
   · exact q.elim
  | _ => exact q.elim
 | _ => exact q.elim
theorem sd_mod (ha : Sd g X a a') (hb : Sd g X b b') : Sd g X (.BinOp a .Mod b pos) (.op .mod a' b') := pe_imp (pe_op op_modN ha hb) fun sg H Q q => by
 obtain ⟨rho, st, env, s, n, q⟩ := q
 simp only [evalE] at q
 refine two (k := opD .mod) ?_ s n q
 intro x y u v st rho H Q s rx ry q
 cases x with
 | int i =>
  cases y with
  | int j =>
   simp only [opD] at q
   split at q
   · rename_i z
     exact ⟨i, j, rep_int.mp rx, rep_int.mp ry, z, q _ H rho (.refl _ _) s (rep_int.mpr rfl)⟩
   · exact q.elim
  | _ => exact q.elim
 | _ => exact q.elim
theorem sd_pow (ha : Sd g X a a') (hb : Sd g X b b') : Sd g X (.BinOp a .Pow b pos) (.op .pow a' b') := pe_imp (pe_op op_pow ha hb) fun sg H Q q => by
 obtain ⟨rho, st, env, s, n, q⟩ := q
 simp only [evalE] at q
 refine two (k := opD .pow) ?_ s n q
 intro x y u v st rho H Q s rx ry q
 cases x with
 | int i =>
  cases y with
  | int j =>
   simp only [opD] at q
   split at q
   · rename_i z
     exact ⟨i, j, rep_int.mp rx, rep_int.mp ry, z, q _ H rho (.refl _ _) s (rep_int.mpr rfl)⟩
   · exact q.elim
  | _ => exact q.elim
 | _ => exact q.elim
end DD
namespace DD
open PySem PySem.Spec L2
open PyProof.Rows hiding St
structure Flew (P : Program) (w : World) (outer : List PySem.Env) (H : Hp) (s : Shared) (C a t : Addr) (H' : Hp) (B : Heap) (s' : Shared) : Prop where
 os : s'.os = s.os
 bare : AllBare s'.gens
 fly : Heap.FlyingW B outer a (.ref C) (.ref t) s'.heap
 keep : ∀ b o, s.heap.get? b = some o → H b = none → b ∉ frs outer → B.get? b = some o
 there : ∀ b o, s.heap.get? b = some o → b ∉ frs outer → ∃ o', B.get? b = some o'
 free : ∀ b o, s.heap.get? b = some o → H b = none → H' b = none
 slot : ∀ b o, s.heap.get? b = some o → H b = none → b ∈ frs outer → ∃ sl, s'.heap.get? b = some { o with slots := sl }
 tups : ∀ b xs, H b = some (.tup xs) → H' b = some (.tup xs)
 frzs : ∀ b o u, H b = some (.frz o u) → H' b = some (.frz o u)
 tbls : ∀ b ps, H b = some (.tbl ps) → ∃ more, H' b = some (.tbl (ps ++ more))
 hok : HOk P w H' B
noncomputable def CXd (P : Program) (w : World) : CXT := fun outer H s E e s' => ∃ (C a t : Addr) (H' : Hp) (B : Heap), e = .ref a ∧ Flew P w outer H s C a t H' B s' ∧ E (.ref C) none H'
theorem frs_cons {env : PySem.Env} {L : Addr} (h : env.frame = some L) (outer : List PySem.Env) : frs (env :: outer) = L :: frs outer := by
 unfold frs; rw [List.filterMap_cons, h]
section
variable {P : Program} {w : World} {K : PySem.W.Frag} {mg : Str → Option Value} {base : Heap} {N : List Str} {qual : Str} {scope : Scope} {f : Addr} {cd : Value} {A : Around} {outer : List PySem.Env} {s : Shared} {H : Hp} {E : XK}
theorem pass_def : Passes (CXd P w) (cxOf (CXd P w) P w K mg base N qual scope f cd A outer s H E) E := by
 intro pins sg H1 s1 e s2 I h
 obtain ⟨C, a, t, H', B, rfl, F, q⟩ := h
 have hf : (envOfC qual scope s.heap.objs.size f cd).frame = some s.heap.objs.size := rfl
 have hstk : (cxOf (CXd P w) P w K mg base N qual scope f cd A outer s H E).stack = envOfC qual scope s.heap.objs.size f cd :: outer := rfl
 have hfr := frs_cons hf outer
 rw [hstk] at F
 have hb : ∀ b o, s.heap.get? b = some o → b ∉ frs outer → b ∉ frs (envOfC qual scope s.heap.objs.size f cd :: outer) := fun b o e hn => by
  rw [hfr]
  intro m
  rcases List.mem_cons.mp m with z | z
  · have := Heap.lt_size e; rw [z] at this; exact Nat.lt_irrefl _ this
  · exact hn z
 have up : ∀ b o, s.heap.get? b = some o → ∃ o', s1.heap.get? b = some o' := fun b o e => I.base.there b o e (by intro z; cases z)
 show wpAny (model P w) (A.deeper (envOfC qual scope s.heap.objs.size f cd)) (leaving (envOfC qual scope s.heap.objs.size f cd) (.ref a)) (fun _ s'' => CXd P w outer H s E (.ref a) s'') (fun e' s'' => CXd P w outer H s E e' s'') s2
 refine wpAny_leaves_onW (I.ok.frames) hf F.fly fun h' fl us => ?_
 refine ⟨C, a, t, H', B, rfl, ⟨F.os.trans I.os, F.bare, fl, fun b o e n hn => ?_, fun b o e hn => ?_, fun b o e n => ?_, fun b o e n hm => ?_, fun b xs e => F.tups _ _ (I.base.tups _ _ e), fun b o u e => F.frzs _ _ _ (I.base.frzs _ _ _ e), fun b ps e => ?_, F.hok⟩, q⟩
 · exact F.keep b o (I.base.keep b o e n hn (by intro z; cases z)) (I.base.free b o e n (by intro z; cases z)) (hb b o e hn)
 · obtain ⟨o', e'⟩ := up b o e
   exact F.there b o' e' (hb b o e hn)
 · obtain ⟨o', e'⟩ := up b o e
   exact F.free b o' e' (I.base.free b o e n (by intro z; cases z))
 · obtain ⟨sl, e1⟩ := I.base.slot b o e n hm (by intro z; cases z)
   have n1 := I.base.free b o e n (by intro z; cases z)
   obtain ⟨sl2, e2⟩ := F.slot b _ e1 n1 (by rw [hfr]; exact List.mem_cons_of_mem _ hm)
   have nf : ∀ vs, o.data ≠ .fields vs := by
    obtain ⟨_, o2, ho2, hd2⟩ := I.ok.funs.mem hm
    have : s.heap.get? b = some o2 := ho2
    rw [e] at this; cases this; exact hd2
   obtain ⟨sl3, e3⟩ := us b _ e2 nf
   exact ⟨sl3, e3⟩
 · obtain ⟨m1, e1⟩ := I.base.tbls b ps e
   obtain ⟨m2, e2⟩ := F.tbls b _ e1
   exact ⟨m1 ++ m2, by rw [e2, Array.append_assoc]⟩
end
end DD
namespace DD
open PySem PySem.Spec L2
open PyProof.Rows hiding St
abbrev Cx.hd (X : Cx) (a : Addr) : Cx := { X with A := X.A.mark (some (.ref a)), calm := false, xe := fun _ _ => False }
end DD
namespace DD
open PySem PySem.Spec L2
open PyProof.Rows hiding St
end DD
namespace DD
open PySem PySem.Spec PySem.W PySem.Calls PyProof.Rows Builtin Builtin.ObjectAttr Builtin.Getset_descriptor
structure ExcC (K : Frag) (C : Addr) : Prop where
 cl : (clsIn K C).isSome = true
 ga : findIn K (.ref C) "__getattribute__" = some (some (.builtin "BaseException.__getattribute__"))
 gn : findIn K (.ref C) "__getattr__" = some none
 ha : findIn K (.ref C) "__class__" = some (some (.builtin "object.__class__"))
 hn : specialIn K (.builtin "object.__class__") "__get__" = some (some (.builtin "getset_descriptor.__get__"))
 tk : takesIn K (.builtin "object.__class__") = some true
 ob : mroIn K C (.type "object") = some true
 be : mroIn K C (.type "BaseException") = some true
section
variable {prog : Program} {w : World} {A : Around} {E : Value → Shared → Prop} {s : Shared} {K : Frag} {x C : Addr}
theorem class_getX {R : Result → Shared → Prop} {tp : Value} (X : K.In s.heap) (L0 : Looks (model prog w) s.heap (typeOf (.ref x)) (.ref C)) (hm : mroIn K C (.type "object") = some true)
    (h : R (.ok (.ret (.ref C))) s) : codeAny (model prog w) A (.call (.builtin "getset_descriptor.__get__") ⟨[.builtin "object.__class__", .ref x, tp], []⟩) R s := by
  obtain ⟨hh, g, dr, t, os⟩ := s
  have L1 := looks_mroIn (M := model prog w) X hm
  refine codeAny_call_builtin KF.slot_gs.plain KF.entry_gs (KF.slot_gs.check _ _ _ _ _ _ _ _ KF.type_class (KF.args_gs _ _ _) ?_)
  unfold Builtin.«getset_descriptor.__get__» descrGet
  rw [dga_obj]
  refine wpAny_bind (wpAny_pure ?_)
  unfold descrGetter descrCheckInstance descrNameAndClass isInstance
  simp only [KF.owner_class]
  repeat lk
  refine ⟨Code.quiet_builtin _ (by decide +kernel), codeAny_builtin KF.entry_class ?_⟩
  unfold Builtin.«object.__class__» shownTypeOf
  repeat lk
  exact h
theorem find_class (X : K.In s.heap) (ec : ExcC K C) {M : Model} : Looks M s.heap (Builtin.ObjectAttr.find (.ref x) (.ref C) "__class__") (.bind (.builtin "getset_descriptor.__get__") (.builtin "object.__class__")) := by
 have L1 := looks_findIn (M := M) X ec.ha
 have L2 : Looks M s.heap (Builtin.ObjectAttr.getOf (some (.builtin "object.__class__"))) (some (.builtin "getset_descriptor.__get__")) := looks_specialIn X ec.hn
 have L3 := looks_takesIn (M := M) X ec.tk
 refine L1.andThen (L2.andThen ?_)
 exact (show Looks M s.heap (Builtin.ObjectAttr.dataDescriptor? (some (.builtin "object.__class__")) (some (.builtin "getset_descriptor.__get__"))) (some (.builtin "getset_descriptor.__get__", .builtin "object.__class__")) from L3.andThen .now).andThen (Looks.tag .now)
theorem exc_entry {tk : Tok} {Q : Fin → Shared → Prop} (X : K.In s.heap) (ec : ExcC K C) (L0 : Looks (model prog w) s.heap (typeOf (.ref x)) (.ref C)) (hq : Q (.done (.ret (.ref C))) s) :
    wpAny (model prog w) A (Builtin.«object.__getattribute__» ⟨[.ref x, .str "__class__" tk], []⟩) Q E s := by
  have LF := find_class (x := x) X ec (M := model prog w)
  have hc := class_getX (A := A) (tp := .ref C) (R := fun r s' => match r with | .ok (.ret v) => v = .ref C ∧ s' = s | _ => False) X L0 ec.ob ⟨rfl, rfl⟩
  obtain ⟨hh, g, dr, t, os⟩ := s
  unfold Builtin.«object.__getattribute__»
  repeat (first | (with_reducible refine wpAny_call (codeAny_mono hc fun r s' hr => ?_)) | lk)
  cases r with
  | error e => exact hr.elim
  | ok f =>
    cases f with
    | ret v => obtain ⟨rfl, rfl⟩ := hr; exact wpAny_pure hq
    | _ => exact hr.elim
theorem exc_check {tk : Tok} {Q : Unit → Shared → Prop} (X : K.In s.heap) (ec : ExcC K C) (L0 : Looks (model prog w) s.heap (typeOf (.ref x)) (.ref C)) (hq : Q () s) :
    wpAny (model prog w) A (checkBuiltinCall "BaseException.__getattribute__" ⟨[.ref x, .str "__class__" tk], []⟩) Q E s := by
  have hk : builtinKind "BaseException.__getattribute__" = some .slot := by decide +kernel
  have hsplit : splitId "BaseException.__getattribute__" = some ("BaseException", "__getattribute__") := by decide +kernel
  have ha := F.args_bexc_ga (.ref x) (.str "__class__" tk)
  have L1 := looks_mroIn (M := model prog w) X ec.be
  obtain ⟨hh, g, dr, t, os⟩ := s
  simp only [checkBuiltinCall, hk, hsplit]
  refine wpAny_bind ?_
  unfold isInstance
  repeat (first | lk | wp_step)
  exact hq
theorem exc_call {tk : Tok} {R : Result → Shared → Prop} (X : K.In s.heap) (ec : ExcC K C) (L0 : Looks (model prog w) s.heap (typeOf (.ref x)) (.ref C)) (hq : R (.ok (.ret (.ref C))) s) :
    codeAny (model prog w) A (.call (.builtin "BaseException.__getattribute__") ⟨[.ref x, .str "__class__" tk], []⟩) R s :=
  codeAny_call_builtin (by decide +kernel) F.entry_bexc_ga (exc_check X ec L0 (exc_entry X ec L0 hq))
theorem exc_attr {Q : Option Value → Shared → Prop} (X : K.In s.heap) (ec : ExcC K C) (L0 : Looks (model prog w) s.heap (typeOf (.ref x)) (.ref C)) (hq : Q (some (.ref C)) { s with toks := s.toks + 1 }) :
    wpAny (model prog w) A (getAttr? (.ref x) "__class__") Q E s := by
  have hx2 : (Value.builtin "BaseException.__getattribute__" == Value.builtin "object.__getattribute__") = false := by decide +kernel
  have L1 := looks_findIn (M := model prog w) X ec.ga
  have L2 := looks_findIn (M := model prog w) X ec.gn
  have hc := exc_call (s := { s with toks := s.toks + 1 }) (A := A) (tk := s.toks) (R := fun r s' => match r with | .ok (.ret v) => v = .ref C ∧ s' = { s with toks := s.toks + 1 } | _ => False) X ec L0 ⟨rfl, rfl⟩
  obtain ⟨hh, g, d, t, os⟩ := s
  unfold getAttr? getAttrBy? getAttrBy
  refine wpAny_bind (wpAny_mkText (wpAny_bind (wpAny_attempt (wpAny_holding (wpAny_bind (L0.at (wpAny_bind (L1.at ?_))))))))
  dsimp only
  rw [hx2, Bool.and_false, if_neg Bool.false_ne_true]
  have hb : bindSpecial (.builtin "BaseException.__getattribute__") (.ref x) = pure (.builtin "BaseException.__getattribute__", [.ref x]) := by
    have hop : withoutEnding? "BaseException.__getattribute__" "#opaque" = none := by decide +kernel
    have hdat : withoutEnding? "BaseException.__getattribute__" "#data" = none := by decide +kernel
    have hkd : builtinKind "BaseException.__getattribute__" = some .slot := by decide +kernel
    simp only [bindSpecial, typeOf, builtinType, hop, hdat, hkd]; rfl
  unfold getAttrByItsOwn hookBefore callGetattribute boundAndCalled
  rw [show onTheHeap (.ref C) = true from rfl, if_pos rfl]
  refine wpAny_bind (L2.at ?_)
  refine wpAny_bind (wpAny_attempt (wpAny_holding ?_))
  rw [if_neg (by simp)]
  refine wpAny_bind (wpAny_of_eq hb ?_)
  show wpAny (model prog w) A (call (.builtin "BaseException.__getattribute__") [.ref x, .str "__class__" t]) _ _ _
  refine wpAny_call (codeAny_mono hc fun r s' hr => ?_)
  cases r with
  | error e => exact hr.elim
  | ok f =>
    cases f with
    | ret v =>
      obtain ⟨rfl, rfl⟩ := hr
      exact wpAny_of_eq (handedOut_of rfl) (wpAny_pure hq)
    | _ => exact hr.elim
theorem kitx_exc (ec : ExcC K C) : KitX K (.ref x) (.ref C) (fun h => ∃ o, h.get? x = some o ∧ o.cls = .ref C) where
 ty := fun M h _ ⟨o, e, hc⟩ => hc ▸ (Looks.ld e).andThen .now
 it := fun _ _ X _ => by
  obtain ⟨cd, hcd⟩ := Option.isSome_iff_exists.mp ec.cl
  unfold clsIn at hcd
  split at hcd
  · rename_i c' d' cd' sl' ho
    intro A' Q' E' s' k q
    unfold isType loadHead
    exact wpAny_bind (wpAny_loadPart (k _ _ (X _ _ ho)) (wpAny_pure q))
  · cases hcd
 ne := fun h tp dd its n sl X htp => by
  obtain ⟨cd, hcd⟩ := Option.isSome_iff_exists.mp ec.cl
  refine Bool.eq_false_iff.mpr fun q => ?_
  have e : C = tp := Value.ref.inj (beq_iff_eq.mp q)
  subst e
  unfold clsIn at hcd
  split at hcd
  · rename_i ho
    have := X _ _ ho
    rw [htp] at this
    cases this
  · cases hcd
 ca := fun X ⟨o, e, hc⟩ hq => exc_attr X ec (hc ▸ (Looks.ld e).andThen .now) hq
end
end DD
namespace DD
open PySem PySem.Spec L2
variable {g : G} {X : Cx} {a b c : Expr} {a' b' c' : E} {pos : Pos}
theorem reads_all {H : Hp} {s : Shared} {rho : List Addr} {f : D → Option PyData}
    (hf : ∀ (d : D) (v : V) (u : Value) (p : PyData), g.Rep rho H d v → RelV v u → f d = some p → ∃ as, Reads s.heap u p as) :
    ∀ {ds : List D} {vs : List V} {us : List Value} {ps : List PyData}, g.RepL rho H ds vs → Vals vs us → optAll (ds.map f) = some ps → ∃ as, ReadsAll s.heap us ps as
  | [], vs, us, ps, r, rv, e => by
    simp only [RepL] at r; subst r
    cases rv
    simp [optAll] at e; subst e
    exact ⟨[], .nil⟩
  | d :: t, vs, us, ps, r, rv, e => by
    simp only [RepL] at r
    obtain ⟨v, w, rfl, r1, r2⟩ := r
    cases rv with
    | cons q1 q2 =>
      simp only [List.map_cons] at e
      cases ed : f d with
      | none => rw [ed] at e; simp [optAll] at e
      | some p =>
        rw [ed] at e
        simp only [optAll] at e
        cases et : optAll (t.map f) with
        | none => rw [et] at e; cases e
        | some ps' =>
          rw [et] at e; cases e
          obtain ⟨as, h1⟩ := hf _ _ _ _ r1 q1 ed
          obtain ⟨bs, h2⟩ := reads_all hf r2 q2 et
          exact ⟨as ++ bs, .cons h1 h2⟩
theorem reads {pins : List (Addr × Obj)} {sg : L2.St} {H : Hp} {s : Shared} {rho : List Addr} {st : Sto} (hK : X.K = g.K) (I : Inv X pins sg H s) (S : g.Sto rho st H) :
    ∀ (n : Nat) (d : D) (v : V) (u : Value) (p : PyData), g.Rep rho H d v → RelV v u → pyOf st n d = some p → ∃ as, Reads s.heap u p as := by
  intro n
  induction n with
  | zero =>
    intro d v u p r rv e
    cases d with
    | non => cases rep_non.mp r; simp [pyOf] at e; subst e; cases rv; exact ⟨_, .none⟩
    | bl b => cases rep_bl.mp r; simp [pyOf] at e; subst e; cases rv; exact ⟨_, .bool b⟩
    | int i => cases rep_int.mp r; simp [pyOf] at e; subst e; obtain ⟨t, rfl⟩ := rv; exact ⟨_, .int i t⟩
    | str x => cases rep_str.mp r; simp [pyOf] at e; obtain ⟨_, rfl⟩ := e; obtain ⟨t, rfl⟩ := rv; exact ⟨_, .str x t⟩
    | tup ds => simp [pyOf] at e
    | loc m => simp [pyOf] at e
  | succ n ih =>
    intro d v u p r rv e
    cases d with
    | non => cases rep_non.mp r; simp [pyOf] at e; subst e; cases rv; exact ⟨_, .none⟩
    | bl b => cases rep_bl.mp r; simp [pyOf] at e; subst e; cases rv; exact ⟨_, .bool b⟩
    | int i => cases rep_int.mp r; simp [pyOf] at e; subst e; obtain ⟨t, rfl⟩ := rv; exact ⟨_, .int i t⟩
    | str x => cases rep_str.mp r; simp [pyOf] at e; obtain ⟨_, rfl⟩ := e; obtain ⟨t, rfl⟩ := rv; exact ⟨_, .str x t⟩
    | tup ds =>
      obtain ⟨a, vs, rfl, q, rl⟩ := rep_tup.mp r
      simp only [pyOf] at e
      cases eo : optAll (ds.map (pyOf st n)) with
      | none => rw [eo] at e; cases e
      | some ps =>
        rw [eo] at e; cases e
        rw [← hK] at q
        obtain ⟨its, rvs, ⟨o, ho, hc, n', hd⟩, _⟩ := I.tuple q
        obtain ⟨as, h2⟩ := reads_all ih rl rvs eo
        cases rv
        exact ⟨as, .tuple ho hc hd (by simpa using h2)⟩
    | loc m =>
      simp only [pyOf] at e
      cases el : lstOf st m with
      | none => rw [el] at e; cases e
      | some ds =>
        rw [el] at e
        simp only [Option.bind_some] at e
        cases eo : optAll (ds.map (pyOf st n)) with
        | none => rw [eo] at e; cases e
        | some ps =>
          rw [eo] at e; cases e
          obtain ⟨a, vs, hr, q, rl⟩ := sto_seq S el
          obtain ⟨a2, h1, h2⟩ := rep_loc.mp r
          rw [hr] at h1; cases h1
          subst h2
          rw [← hK] at q
          obtain ⟨its, rvs, ⟨o, n', ho, hc, _, hd⟩, _⟩ := I.list q
          obtain ⟨as, h3⟩ := reads_all ih rl rvs eo
          cases rv
          exact ⟨a :: as, .list ho hc hd (by simpa using h3)⟩
theorem py_shape {st : Sto} : ∀ (n : Nat) (d : D) (p : PyData), pyOf st n d = some p → p.canLay0 = true ∧ p.depth ≤ n := by
 have all : ∀ (n : Nat), (∀ (d : D) (p : PyData), pyOf st n d = some p → p.canLay0 = true ∧ p.depth ≤ n) → ∀ (ds : List D) (ps : List PyData), optAll (ds.map (pyOf st n)) = some ps → PyData.canLayAll0 ps = true ∧ PyData.depthAll ps ≤ n := by
  intro n ih ds
  induction ds with
  | nil => intro ps e; simp [optAll] at e; subst e; exact ⟨rfl, Nat.zero_le _⟩
  | cons d t ih2 =>
   intro ps e
   simp only [List.map_cons] at e
   cases ed : pyOf st n d with
   | none => rw [ed] at e; simp [optAll] at e
   | some p =>
    rw [ed] at e
    simp only [optAll] at e
    cases et : optAll (t.map (pyOf st n)) with
    | none => rw [et] at e; cases e
    | some ps' =>
     rw [et] at e; cases e
     obtain ⟨h1, h2⟩ := ih _ _ ed
     obtain ⟨h3, h4⟩ := ih2 _ et
     exact ⟨by simp only [PyData.canLayAll0, h1, h3, Bool.and_self], by simp only [PyData.depthAll]; exact Nat.max_le.mpr ⟨h2, h4⟩⟩
 intro n
 induction n with
 | zero =>
  intro d p e
  cases d <;> simp [pyOf] at e <;> first | (subst e; exact ⟨rfl, Nat.zero_le _⟩) | (obtain ⟨h, rfl⟩ := e; exact ⟨h, Nat.zero_le _⟩)
 | succ n ih =>
  intro d p e
  cases d with
  | non => simp [pyOf] at e; subst e; exact ⟨rfl, Nat.zero_le _⟩
  | bl b => simp [pyOf] at e; subst e; exact ⟨rfl, Nat.zero_le _⟩
  | int i => simp [pyOf] at e; subst e; exact ⟨rfl, Nat.zero_le _⟩
  | str x => simp [pyOf] at e; obtain ⟨h, rfl⟩ := e; exact ⟨h, Nat.zero_le _⟩
  | tup ds =>
   simp only [pyOf] at e
   cases eo : optAll (ds.map (pyOf st n)) with
   | none => rw [eo] at e; cases e
   | some ps =>
    rw [eo] at e; cases e
    obtain ⟨h1, h2⟩ := all n ih _ _ eo
    exact ⟨h1, by simp only [PyData.depth]; omega⟩
  | loc m =>
   simp only [pyOf] at e
   cases el : lstOf st m with
   | none => rw [el] at e; cases e
   | some ds =>
    rw [el] at e
    simp only [Option.bind_some] at e
    cases eo : optAll (ds.map (pyOf st n)) with
    | none => rw [eo] at e; cases e
    | some ps =>
     rw [eo] at e; cases e
     obtain ⟨h1, h2⟩ := all n ih _ _ eo
     exact ⟨h1, by simp only [PyData.depth]; omega⟩
theorem py_shaped {st : Sto} {n : Nat} {d : D} {p : PyData} (h : pyOf st n d = some p) (hn : n ≤ 64) : SeqAt.shaped p = true := by
 obtain ⟨h1, h2⟩ := py_shape n d p h
 unfold SeqAt.shaped
 rw [h1, decide_eq_true (by omega : p.depth ≤ 64)]
 rfl
noncomputable def rEqD (g : G) (neg : Bool) : R2 := fun x y H Q => ∃ rho st d e p q, g.Sto rho st H ∧ g.Rep rho H d x ∧ g.Rep rho H e y ∧ pyOf st 40 d = some p ∧ pyOf st 40 e = some q ∧ Q (.bl (if neg then !PyData.eqv p q else PyData.eqv p q)) H
theorem op_eqD (hK : X.K = g.K) (hu : X.A.units + 64 < cLine) : OpR X (compareOp .Eq) (rEqD g false) := by
 intro pins s sg H x y v u Q I rx ry h
 obtain ⟨rho, st, d, e, p, q, S, r1, r2, e1, e2, hq⟩ := h
 obtain ⟨as, h1⟩ := reads hK I S 40 d x v p r1 rx e1
 obtain ⟨bs, h2⟩ := reads hK I S 40 e y u q r2 ry e2
 exact SeqAt.compareEq_shaped h1 h2 (py_shaped e1 (by decide)) (py_shaped e2 (by decide)) hu ⟨.bl _, H, I, rfl, hq⟩
theorem op_neD (hK : X.K = g.K) (hu : X.A.units + 64 < cLine) : OpR X (compareOp .NotEq) (rEqD g true) := by
 intro pins s sg H x y v u Q I rx ry h
 obtain ⟨rho, st, d, e, p, q, S, r1, r2, e1, e2, hq⟩ := h
 obtain ⟨as, h1⟩ := reads hK I S 40 d x v p r1 rx e1
 obtain ⟨bs, h2⟩ := reads hK I S 40 e y u q r2 ry e2
 exact SeqAt.compareNe_shaped h1 h2 (py_shaped e1 (by decide)) (py_shaped e2 (by decide)) hu ⟨.bl _, H, I, rfl, hq⟩
theorem eqV_some {st : Sto} {x y : D} {b : Bool} (h : eqV st x y = some b) : ∃ p q, pyOf st 40 x = some p ∧ pyOf st 40 y = some q ∧ b = PyData.eqv p q := by
 unfold eqV at h
 cases e1 : pyOf st 40 x with
 | none => rw [e1] at h; cases h
 | some p =>
  cases e2 : pyOf st 40 y with
  | none => rw [e1, e2] at h; cases h
  | some q => rw [e1, e2] at h; cases h; exact ⟨p, q, rfl, rfl, rfl⟩
end DD
namespace DD
open PySem PySem.Spec L2
open PyProof.Rows hiding St RelV
def IsN (hp : Heap) : Nat → D → Value → Prop
 | 0, d, v => (∃ i t, d = .int i ∧ v = .int i t) ∨ ∃ x t, d = .str x ∧ v = .str x t ∧ PyData.canLay0 (.str x) = true
 | n + 1, d, v => ((∃ i t, d = .int i ∧ v = .int i t) ∨ ∃ x t, d = .str x ∧ v = .str x t ∧ PyData.canLay0 (.str x) = true) ∨ ∃ ds q ob its m, d = .tup ds ∧ v = .ref q ∧ hp.get? q = some ob ∧ ob.cls = .type "tuple" ∧ ob.data = .seq its m ∧ Paired (IsN hp n) ds its.toList
noncomputable def drawD : Nat → D → Nat
 | n + 1, .tup ds => (ds.map (drawD n)).sum + 1
 | _, _ => 1
theorem isN_inj {hp : Heap} : ∀ {n : Nat} {x y : D} {v : Value}, IsN hp n x v → IsN hp n y v → x = y
 | 0, x, y, v, h1, h2 => by
  rcases h1 with ⟨i, t, rfl, rfl⟩ | ⟨z, t, rfl, rfl, _⟩
  · rcases h2 with ⟨j, u, rfl, e⟩ | ⟨z, u, rfl, e, _⟩
    · cases e; rfl
    · cases e
  · rcases h2 with ⟨j, u, rfl, e⟩ | ⟨z', u, rfl, e, _⟩
    · cases e
    · cases e; rfl
 | n + 1, x, y, v, h1, h2 => by
  rcases h1 with (⟨i, t, rfl, rfl⟩ | ⟨z, t, rfl, rfl, _⟩) | ⟨ds, q, ob, its, m, rfl, rfl, e1, e2, e3, e4⟩
  · rcases h2 with (⟨j, u, rfl, e⟩ | ⟨z, u, rfl, e, _⟩) | ⟨ds, q, ob, its, m, rfl, e, _⟩
    · cases e; rfl
    · cases e
    · cases e
  · rcases h2 with (⟨j, u, rfl, e⟩ | ⟨z', u, rfl, e, _⟩) | ⟨ds, q, ob, its, m, rfl, e, _⟩
    · cases e
    · cases e; rfl
    · cases e
  · rcases h2 with (⟨j, u, rfl, e⟩ | ⟨z, u, rfl, e, _⟩) | ⟨ds2, q2, ob2, its2, m2, rfl, e, f1, f2, f3, f4⟩
    · cases e
    · cases e
    · cases e
      rw [e1] at f1; cases f1
      rw [e3] at f3; cases f3
      have : ds = ds2 := by
       clear e1 e2 e3 f2
       generalize its.toList = l at e4 f4
       induction e4 generalizing ds2 with
       | nil => cases f4; rfl
       | cons p t ih =>
        cases f4 with
        | cons p2 t2 => rw [isN_inj p p2, ih _ t2]
      rw [this]
theorem isN_keep {hp h' : Heap} (hk : ∀ q ob its m, hp.get? q = some ob → ob.data = .seq its m → h'.get? q = some ob) : ∀ {n : Nat} {x : D} {v : Value}, IsN hp n x v → IsN h' n x v
 | 0, x, v, h => h
 | n + 1, x, v, h => by
  rcases h with h | ⟨ds, q, ob, its, m, rfl, rfl, e1, e2, e3, e4⟩
  · exact .inl h
  · refine .inr ⟨ds, q, ob, its, m, rfl, rfl, hk q ob its m e1 e3, e2, e3, ?_⟩
    clear e3
    generalize its.toList = l at e4 ⊢
    induction e4 with
    | nil => exact .nil
    | cons p t ih => exact .cons (isN_keep hk p) ih
section
variable {prog : Program} {w : World}
theorem hashN : ∀ (n : Nat) (d : D) (v : Value) (A : Around) (E : Value → Shared → Prop) (s : Shared) (Q : Int → Shared → Prop), A.units + n < cLine → IsN s.heap n d v → Q (hashD w n d) { s with toks := s.toks + drawD n d } → wpAny (model prog w) A (pyHash v) Q E s := by
 have flat : ∀ (n : Nat) (d : D) (v : Value) (A : Around) (E : Value → Shared → Prop) (s : Shared) (Q : Int → Shared → Prop), ((∃ i t, d = .int i ∧ v = .int i t) ∨ ∃ x t, d = .str x ∧ v = .str x t ∧ PyData.canLay0 (.str x) = true) → Q (hashD w n d) { s with toks := s.toks + drawD n d } → wpAny (model prog w) A (pyHash v) Q E s := by
  intro n d v A E s Q h q
  rcases h with ⟨i, t, rfl, rfl⟩ | ⟨x, t, rfl, rfl, _⟩
  · exact wpAny_pyHash_int (by cases n <;> exact q)
  · exact wpAny_pyHash_str (by cases n <;> exact q)
 intro n
 induction n with
 | zero => intro d v A E s Q _ h q; exact flat 0 d v A E s Q h q
 | succ n ih =>
  intro d v A E s Q hu h q
  rcases h with h | ⟨ds, p, ob, its, m, rfl, rfl, e1, e2, e3, e4⟩
  · exact flat (n + 1) d v A E s Q h q
  · have tt : s.TypeIs (.ref p) "tuple" := ⟨ob, e1, e2⟩
    unfold pyHash
    first | unfold pyHashByItsType | skip
    first | refine wpAny_bind (wpAny_cRoomFor_or (.inr (by omega)) ?_) | skip
    refine wpAny_bind (wpAny_specialOf tt F.slot_tuple_hash.lookup (?_ : wpAny _ _ (if (some (Value.builtin "tuple.__hash__") == some Value.none) = true then _ else _) Q E s))
    rw [if_neg (by rw [beq_builtin_none]; exact Bool.false_ne_true)]
    refine wpAny_bind (wpAny_specialOf tt F.slot_tuple_hash.lookup (?_ : wpAny _ _ (callSpecialIfBoundUnlessNone? (.ref p) "__hash__" _ >>= _) Q E s))
    refine wpAny_bind (wpAny_callSpecialIfBoundUnlessNone?_slot tt F.slot_tuple_hash (wpAny_call_entry F.slot_tuple_hash tt F.entry_tuple_hash (?_ : wpAny _ _ (Builtin.Tuple.tupleItemsOf (.ref p) >>= _) _ _ s) (F.args_tuple_hash_1 _)))
    refine wpAny_bind (wpAny_tupleItemsOf e1 e3 (wpAny_bind ?_))
    rw [← Array.forIn_toList]
    refine wpAny_forIn_list _ (fun rest (b : Array Int) s' => ∃ pre post, ds = pre ++ post ∧ Paired (IsN s.heap n) post rest ∧ b.toList = pre.map (hashD w n) ∧ s' = { s with toks := s.toks + (pre.map (drawD n)).sum }) _ ?_ ?_ _ _ ⟨[], ds, rfl, e4, rfl, by simp⟩
    · rintro x rest b s' ⟨pre, post, rfl, hp, hb, rfl⟩
      cases hp with
      | @cons d1 _ post' _ h1 h2 =>
       refine wpAny_bind (ih d1 x _ _ _ _ (by show A.units + 1 + n < cLine; omega) h1 ?_)
       have fin : ∃ pre2 post2, pre ++ d1 :: post' = pre2 ++ post2 ∧ Paired (IsN s.heap n) post2 rest ∧ (b.push (hashD w n d1)).toList = pre2.map (hashD w n) ∧ ({ s with toks := s.toks + (pre.map (drawD n)).sum + drawD n d1 } : Shared) = { s with toks := s.toks + (pre2.map (drawD n)).sum } :=
        ⟨pre ++ [d1], post', by simp, h2, by simp [hb], by simp [Nat.add_assoc]⟩
       first
        | exact wpAny_pure fin
        | exact wpAny_bind (wpAny_pure (wpAny_pure fin))
    · rintro b s' ⟨pre, post, rfl, hp, hb, rfl⟩
      cases hp
      rw [List.append_nil] at q
      refine (?_ : wpAny _ _ (retInt (Builtin.Tuple.tupleHashOf b.toList)) _ _ _)
      rw [hb]
      refine wpAny_ret_mkInt (?_ : wpAny _ _ (if (decide (-(2 : Int) ^ 63 ≤ Builtin.Tuple.tupleHashOf (pre.map (hashD w n))) && decide (Builtin.Tuple.tupleHashOf (pre.map (hashD w n)) < 2 ^ 63)) = true then _ else _) Q E _)
      simp only [hashD, drawD] at q
      unfold reduceHash at q
      by_cases hr : (decide (-(2 : Int) ^ 63 ≤ Builtin.Tuple.tupleHashOf (pre.map (hashD w n))) && decide (Builtin.Tuple.tupleHashOf (pre.map (hashD w n)) < 2 ^ 63)) = true
      · rw [if_pos hr] at q ⊢
        exact wpAny_pure (by simpa [Nat.add_assoc] using q)
      · rw [if_neg hr] at q ⊢
        exact wpAny_bind (wpAny_rule (wpAny_pure (by simpa [Nat.add_assoc] using q)))
noncomputable def pyN : Nat → D → PyData
 | _, .int i => .int i
 | _, .str x => .str x
 | n + 1, .tup ds => .tuple (ds.map (pyN n))
 | _, _ => .none
theorem readsN {hp : Heap} : ∀ {n : Nat} {d : D} {v : Value}, IsN hp n d v → (∃ as, Reads hp v (pyN n d) as) ∧ (pyN n d).canLay0 = true ∧ (pyN n d).depth ≤ n := by
 have flat : ∀ {n : Nat} {d : D} {v : Value}, ((∃ i t, d = .int i ∧ v = .int i t) ∨ ∃ x t, d = .str x ∧ v = .str x t ∧ PyData.canLay0 (.str x) = true) → (∃ as, Reads hp v (pyN n d) as) ∧ (pyN n d).canLay0 = true ∧ (pyN n d).depth ≤ n := by
  intro n d v h
  rcases h with ⟨i, t, rfl, rfl⟩ | ⟨x, t, rfl, rfl, hx⟩
  · cases n <;> exact ⟨⟨_, .int i t⟩, rfl, Nat.zero_le _⟩
  · cases n <;> exact ⟨⟨_, .str x t⟩, hx, Nat.zero_le _⟩
 intro n
 induction n with
 | zero => intro d v h; exact flat h
 | succ n ih =>
  intro d v h
  rcases h with h | ⟨ds, q, ob, its, m, rfl, rfl, e1, e2, e3, e4⟩
  · exact flat h
  · have all : ∀ {ds : List D} {l : List Value}, Paired (IsN hp n) ds l → (∃ as, ReadsAll hp l (ds.map (pyN n)) as) ∧ PyData.canLayAll0 (ds.map (pyN n)) = true ∧ PyData.depthAll (ds.map (pyN n)) ≤ n := by
     intro ds l h
     induction h with
     | nil => exact ⟨⟨[], .nil⟩, rfl, Nat.zero_le _⟩
     | cons p t ih2 =>
      obtain ⟨⟨as, r1⟩, c1, d1⟩ := ih p
      obtain ⟨⟨bs, r2⟩, c2, d2⟩ := ih2
      exact ⟨⟨as ++ bs, .cons r1 r2⟩, by simp only [List.map_cons, PyData.canLayAll0, c1, c2, Bool.and_self], by simp only [List.map_cons, PyData.depthAll]; exact Nat.max_le.mpr ⟨d1, d2⟩⟩
    obtain ⟨⟨as, r⟩, c, dp⟩ := all e4
    exact ⟨⟨_, .tuple e1 e2 e3 r⟩, c, by simp only [pyN, PyData.depth]; omega⟩
theorem eqvN {hp : Heap} : ∀ {n : Nat} {x y : D} {u v : Value}, IsN hp n x u → IsN hp n y v → PyData.eqv (pyN n x) (pyN n y) = decide (x = y) := by
 intro n
 induction n with
 | zero =>
  intro x y u v h1 h2
  rcases h1 with ⟨i, t, rfl, rfl⟩ | ⟨z, t, rfl, rfl, _⟩ <;> rcases h2 with ⟨j, t', rfl, rfl⟩ | ⟨z', t', rfl, rfl, _⟩ <;> simp [pyN, PyData.eqv] <;> (first | rfl | exact Bool.beq_eq_decide_eq _ _)
 | succ n ih =>
  intro x y u v h1 h2
  rcases h1 with (⟨i, t, rfl, rfl⟩ | ⟨z, t, rfl, rfl, _⟩) | ⟨ds, q, ob, its, m, rfl, rfl, e1, e2, e3, e4⟩ <;> rcases h2 with (⟨j, t', rfl, rfl⟩ | ⟨z', t', rfl, rfl, _⟩) | ⟨ds2, q2, ob2, its2, m2, rfl, rfl, f1, f2, f3, f4⟩
  · simp [pyN, PyData.eqv] <;> rfl
  · simp [pyN, PyData.eqv]
  · simp [pyN, PyData.eqv]
  · simp [pyN, PyData.eqv]
  · simp [pyN, PyData.eqv] <;> rfl
  · simp [pyN, PyData.eqv]
  · simp [pyN, PyData.eqv]
  · simp [pyN, PyData.eqv]
  · have all : ∀ {ds ds2 : List D} {l l2 : List Value}, Paired (IsN hp n) ds l → Paired (IsN hp n) ds2 l2 → PyData.eqvAll (ds.map (pyN n)) (ds2.map (pyN n)) = decide (ds = ds2) := by
     intro ds ds2 l l2 h
     induction h generalizing ds2 l2 with
     | nil => intro h2; cases h2 <;> simp [PyData.eqvAll]
     | @cons a b r r2 p t ih2 =>
      intro h2
      cases h2 with
      | nil => simp [PyData.eqvAll]
      | cons p2 t2 =>
       simp only [List.map_cons, PyData.eqvAll, ih p p2, ih2 t2, List.cons.injEq, Bool.decide_and]
    simp only [pyN, PyData.eqv, all e4 f4]
    simp
end
section
variable {prog : Program} {w : World}
theorem quietN : ∀ (n m : Nat) (d : D) (v : Value) (A : Around) (E : Value → Shared → Prop) (s : Shared) (Q : Bool → Shared → Prop), n ≤ m → IsN s.heap n d v → Q true s → wpAny (model prog w) A (eqIsQuiet m v) Q E s := by
 have flat : ∀ (m : Nat) (d : D) (v : Value) (A : Around) (E : Value → Shared → Prop) (s : Shared) (Q : Bool → Shared → Prop), ((∃ i t, d = .int i ∧ v = .int i t) ∨ ∃ x t, d = .str x ∧ v = .str x t ∧ PyData.canLay0 (.str x) = true) → Q true s → wpAny (model prog w) A (eqIsQuiet m v) Q E s := by
  intro m d v A E s Q h q
  rcases h with ⟨i, t, rfl, rfl⟩ | ⟨x, t, rfl, rfl, _⟩
  · rw [eqIsQuiet_byValue m (v := .int i t) rfl]; exact wpAny_pure q
  · rw [eqIsQuiet_byValue m (v := .str x t) rfl]; exact wpAny_pure q
 intro n
 induction n with
 | zero => intro m d v A E s Q _ h q; exact flat m d v A E s Q h q
 | succ n ih =>
  intro m d v A E s Q hm h q
  rcases h with h | ⟨ds, p, ob, its, k, rfl, rfl, e1, e2, e3, e4⟩
  · exact flat m d v A E s Q h q
  · obtain ⟨m, rfl⟩ : ∃ j, m = j + 1 := ⟨m - 1, by omega⟩
    have tt : s.TypeIs (.ref p) "tuple" := ⟨ob, e1, e2⟩
    unfold eqIsQuiet
    refine wpAny_bind (wpAny_specialOf tt F.slot_tuple_eq.lookup (?_ : wpAny _ _ (isInstance (.ref p) (.type "tuple") >>= _) _ _ s))
    refine wpAny_bind (wpAny_isInstance tt isSubtype_tuple_tuple ?_)
    simp only [Bool.not_true, Bool.false_eq_true, if_false]
    refine wpAny_bind (wpAny_seqItems e1 e3 (wpAny_bind (?_ : wpAny _ _ (forIn its _ _) _ _ s)))
    rw [← Array.forIn_toList]
    refine wpAny_forIn_list _ (fun rest r s' => r.1 = none ∧ s' = s ∧ ∃ post, Paired (IsN s.heap n) post rest) _ ?_ ?_ _ _ ⟨rfl, rfl, ds, e4⟩
    · rintro x rest r s' ⟨hr, rfl, post, hp⟩
      cases hp with
      | @cons d1 _ post' _ h1 h2 =>
       refine wpAny_bind (ih m d1 x _ _ _ _ (by omega) h1 ?_)
       simp only [Bool.not_true, Bool.false_eq_true, if_false]
       exact wpAny_pure ⟨rfl, rfl, post', h2⟩
    · rintro ⟨r1, r2⟩ s' ⟨hr, rfl, _⟩
      obtain rfl : r1 = none := hr
      exact wpAny_pure q
noncomputable def nestKind (prog : Program) (w : World) : HeapKind prog w D where
 is := fun hp d q => IsN hp 8 d (.ref q)
 hash := hashD w 8
 draws := drawD 8
 room := fun A => A.units + 16 < cLine
 inj := fun h1 h2 => isN_inj h1 h2
 keeps := fun {hp h' k q dd o es ep} h ho hd hs => isN_keep (fun q ob its m e c => (hs.2 q (by
  rintro rfl
  rw [ho] at e; cases e
  rw [hd] at c; cases c)).trans e) h
 pyHash := fun hu h q => hashN 8 _ _ _ _ _ _ (by omega) h q
 eqBool := fun {A E s x y a b Q} hu h1 h2 q => by
  obtain ⟨⟨as, r1⟩, c1, d1⟩ := readsN h1
  obtain ⟨⟨bs, r2⟩, c2, d2⟩ := readsN h2
  refine PySem.SeqAt.eqBoolOverData prog w A E s _ _ _ _ as bs Q r1 r2 c1 c2 ?_ (by rw [eqvN h1 h2]; exact q)
  have : min (pyN 8 x).depth (pyN 8 y).depth ≤ 8 := Nat.le_trans (Nat.min_le_left _ _) d1
  omega
 quiet := fun h q => quietN 8 8 _ _ _ _ _ _ (Nat.le_refl _) h q
end
end DD
namespace DD
open PySem PySem.Spec L2
open PyProof.Rows hiding St RelV
variable {g : G} {X : Cx} {pos apos cpos : Pos} {F : Nat} {a b c : Expr} {a' b' c' : E}
theorem rep_isN_of (hK : X.K = g.K) {pins : List (Addr × Obj)} {sg : L2.St} {H : Hp} {s : Shared} {rho : List Addr} (I : Inv X pins sg H s) : ∀ (n : Nat) (d : D) (v : V) (u : Value), g.Rep rho H d v → RelV v u → okN n d = true → IsN s.heap n d u := by
 have flat : ∀ (n : Nat) (d : D) (v : V) (u : Value), g.Rep rho H d v → RelV v u → okN n d = true → (∀ ds, d ≠ .tup ds) → ((∃ i t, d = .int i ∧ u = .int i t) ∨ ∃ x t, d = .str x ∧ u = .str x t ∧ PyData.canLay0 (.str x) = true) := by
  intro n d v u r rv ok nt
  cases d with
  | int i => cases rep_int.mp r; obtain ⟨t, rfl⟩ := rv; exact .inl ⟨i, t, rfl, rfl⟩
  | str x => cases rep_str.mp r; obtain ⟨t, rfl⟩ := rv; exact .inr ⟨x, t, rfl, rfl, by cases n <;> exact ok⟩
  | tup ds => exact (nt ds rfl).elim
  | _ => cases n <;> simp [okN] at ok
 intro n
 induction n with
 | zero =>
  intro d v u r rv ok
  refine flat 0 d v u r rv ok fun ds z => ?_
  subst z; simp [okN] at ok
 | succ n ih =>
  intro d v u r rv ok
  by_cases ht : ∃ ds, d = .tup ds
  · obtain ⟨ds, rfl⟩ := ht
    obtain ⟨q, vs, rfl, sq, rl⟩ := rep_tup.mp r
    rw [← hK] at sq
    obtain ⟨its, rvs, pl, hz⟩ := I.tuple sq
    obtain ⟨ob, ho, hc, m, hd⟩ := pl
    cases rv
    refine .inr ⟨ds, q, ob, its.toArray, m, rfl, rfl, ho, hc, hd, ?_⟩
    have ok : ds.all (okN n) = true := by simpa [okN] using ok
    clear hd ho hc sq hz r
    have all : ∀ {ds : List D} {vs : List V} {its : List Value}, g.RepL rho H ds vs → Vals vs its → ds.all (okN n) = true → Paired (IsN s.heap n) ds its := by
     intro ds
     induction ds with
     | nil => intro vs its r q _; simp only [RepL] at r; subst r; cases q; exact .nil
     | cons x t ih2 =>
      intro vs its r q ok
      simp only [RepL] at r
      obtain ⟨v, w, rfl, r1, r2⟩ := r
      simp only [List.all_cons, Bool.and_eq_true] at ok
      cases q with
      | cons q1 q2 => exact .cons (ih x v _ r1 q1 ok.1) (ih2 r2 q2 ok.2)
    simpa using all rl rvs ok
  · exact .inl (flat (n + 1) d v u r rv ok fun ds z => ht ⟨ds, z⟩)
theorem nd_of (hK : X.K = g.K) (hw : g.cls.w = X.w) {pins : List (Addr × Obj)} {sg : L2.St} {H : Hp} {s : Shared} {rho : List Addr} {p : Addr} {kvs : List (D × D)} {xs : List (D × Addr × V)} (I : Inv X pins sg H s) (hH : H p = some (.ext (NDict g.cls.w p xs))) (nv : NvRep g.K rho H kvs xs) :
    (p == sysModules) = false ∧ xs.length ≤ sizeLine ∧ ∃ ys : List (D × Addr × Value), Paired (fun (x : D × Addr × V) (y : D × Addr × Value) => x.1 = y.1 ∧ x.2.1 = y.2.1 ∧ RelV x.2.2 y.2.2) xs ys ∧ s.heap.DictOfH (nestKind X.prog X.w) p ys := by
  obtain ⟨⟨h1, h2, h3, o, es, ep, h4, h5, h6, h7⟩, h8⟩ := (show ObjOk X.prog X.w H s.heap p (.ext _) from I.hok p _ hH)
  refine ⟨h1, h2, ?_⟩
  have keys : ∀ x ∈ xs, IsN s.heap 8 x.1 (.ref x.2.1) := by
    clear h8 h7 h3 h2 hH
    induction xs generalizing kvs with
    | nil => intro x hx; cases hx
    | cons y t ih =>
      cases kvs with
      | nil => simp only [NvRep] at nv; cases nv
      | cons kd r =>
        obtain ⟨k, d⟩ := kd
        simp only [NvRep] at nv
        obtain ⟨b, v, t2, e, kn, r1, _, q⟩ := nv
        cases e
        intro x hx
        rcases List.mem_cons.mp hx with rfl | hx
        · refine rep_isN_of hK I 8 _ _ _ r1 rfl ?_
          cases k with
          | tup ds => exact kn
          | _ => cases kn
        · exact ih q x hx
  have mk : ∀ {xs : List (D × Addr × V)} {l : List DictEntry}, Paired (fun (x : D × Addr × V) (e : DictEntry) => e.hash = hashD g.cls.w 8 x.1 ∧ e.key = .ref x.2.1 ∧ RelV x.2.2 e.val) xs l → ∃ ys : List (D × Addr × Value), Paired (fun (x : D × Addr × V) (y : D × Addr × Value) => x.1 = y.1 ∧ x.2.1 = y.2.1 ∧ RelV x.2.2 y.2.2) xs ys ∧ l = ys.map (entryOfKey (nestKind X.prog X.w)) ∧ ys.map (·.1) = xs.map (·.1) := by
    intro xs l h
    induction h with
    | nil => exact ⟨[], .nil, rfl, rfl⟩
    | @cons x e t r p q ih =>
      obtain ⟨ys, e1, e2, e3⟩ := ih
      obtain ⟨hh, hk, hv⟩ := p
      refine ⟨(x.1, x.2.1, e.val) :: ys, .cons ⟨rfl, rfl, hv⟩ e1, ?_, by simp [e3]⟩
      rw [List.map_cons, e2]
      congr 1
      obtain ⟨eh, ek, ev⟩ := e
      simp only at hh hk
      subst hh hk
      rw [hw]; rfl
  obtain ⟨ys, e1, e2, e3⟩ := mk h7
  refine ⟨ys, e1, o, es, ep, h4, h5, h6, e2, ?_, by rw [e3]; exact h3⟩
  have : ∀ {xs : List (D × Addr × V)} {ys : List (D × Addr × Value)}, Paired (fun (x : D × Addr × V) (y : D × Addr × Value) => x.1 = y.1 ∧ x.2.1 = y.2.1 ∧ RelV x.2.2 y.2.2) xs ys → (∀ x ∈ xs, IsN s.heap 8 x.1 (.ref x.2.1)) → ∀ y ∈ ys, (nestKind X.prog X.w).is s.heap y.1 y.2.1 := by
    intro xs ys h
    induction h with
    | nil => intro _ y hy; cases hy
    | @cons x y t r p q ih =>
      intro hx z hz
      rcases List.mem_cons.mp hz with rfl | hz
      · have := hx x List.mem_cons_self
        rw [p.1, p.2.1] at this
        exact this
      · exact ih (fun x h => hx x (List.mem_cons_of_mem _ h)) z hz
  exact this e1 keys
theorem nv_look {rho : List Addr} {H : Hp} {k : D} : ∀ {kvs : List (D × D)} {xs : List (D × Addr × V)} {ys : List (D × Addr × Value)}, NvRep g.K rho H kvs xs → Paired (fun (x : D × Addr × V) (y : D × Addr × Value) => x.1 = y.1 ∧ x.2.1 = y.2.1 ∧ RelV x.2.2 y.2.2) xs ys →
    (∀ d, dLook kvs k = some d → ∃ q v u, atKey ys k = some (q, u) ∧ RelV v u ∧ g.Rep rho H d v) ∧ (dLook kvs k = none → atKey ys k = none)
  | [], xs, ys, h, p => by
    simp only [NvRep] at h; subst h
    cases p
    exact ⟨fun d e => by simp [dLook] at e, fun _ => rfl⟩
  | (x, d) :: r, xs, ys, h, p => by
    simp only [NvRep] at h
    obtain ⟨b, v, t, rfl, _, _, rd, q⟩ := h
    cases p with
    | @cons _ y _ t2 p1 p2 =>
      obtain ⟨y1, y2, y3⟩ := y
      obtain ⟨e1, e2, e3⟩ := p1
      simp only at e1 e2 e3
      subst e1 e2
      by_cases e : x = k
      · subst e
        refine ⟨fun d' ed => ⟨b, v, y3, by simp [atKey], e3, ?_⟩, fun en => by simp [dLook] at en⟩
        simp [dLook] at ed; subst ed; exact rd
      · obtain ⟨l1, l2⟩ := nv_look (k := k) q p2
        refine ⟨fun d' ed => ?_, fun en => ?_⟩
        · obtain ⟨q', v', u', h1, h2, h3⟩ := l1 d' (by simpa [dLook, e] using ed)
          exact ⟨q', v', u', by simpa [atKey, e] using h1, h2, h3⟩
        · have := l2 (by simpa [dLook, e] using en)
          simpa [atKey, e] using this
end DD
namespace DD
open PySem PySem.Spec L2
variable {g : G} {X : Cx} {a b c : Expr} {a' b' c' : E} {pos : Pos}
theorem cm_bl {k : Cm} {x y : D} {st st' : Sto} {d : D} (h : cmD k x y st = .ok d st') : ∃ b, d = .bl b := by
 cases k <;> simp only [cmD] at h <;> (repeat' (split at h)) <;> first | (cases h; exact ⟨_, rfl⟩) | cases h
theorem cmT {k : Cm} {sg : L2.St} {H : Hp} {Q : Bool → Hp → Prop} (q : tT g (.cm k a' b') sg H Q) : tE g (.cm k a' b') sg H (fun x H' => ∃ z, x = .bl z ∧ Q z H') := by
 obtain ⟨rho, st, env, s, n, q⟩ := q
 refine ⟨rho, st, env, s, n, ?_⟩
 simp only [evalT] at q
 simp only [evalE]
 revert q
 cases evalE g.tab g.call a' env st with
 | bad => exact fun q => q
 | exc c st1 => exact fun q => q
 | ok x st1 =>
  simp only [bind_ok]
  cases evalE g.tab g.call b' env st1 with
  | bad => exact fun q => q
  | exc c st2 => exact fun q => q
  | ok y st2 =>
   simp only [bind_ok]
   cases e : cmD k x y st2 with
   | bad => exact fun q => q
   | exc c st3 => exact fun q => q
   | ok d st3 =>
    obtain ⟨z, rfl⟩ := cm_bl e
    simp only [bind_ok]
    intro q v H' rho' k1 s1 r1
    exact ⟨z, rep_bl.mp r1, (show PostB g rho H Q z st3 from q) H' rho' k1 s1⟩
theorem im_eq  {sg : L2.St} {H : Hp} {Q : VK} (q : tE g (.cm .eq a' b') sg H Q) : tOp (rEqD g false) (tE g a') (tE g b') sg H Q := by
 obtain ⟨rho, st, env, s, n, q⟩ := q
 simp only [evalE] at q
 refine two (k := cmD .eq) ?_ s n q
 intro x y u v st rho H Q s rx ry q
 simp only [cmD] at q
 cases e : eqV st x y with
 | none => rw [e] at q; exact q.elim
 | some z =>
  rw [e] at q
  obtain ⟨p1, p2, h1, h2, rfl⟩ := eqV_some e
  exact ⟨rho, st, x, y, p1, p2, s, rx, ry, h1, h2, (show Post g rho H Q (.bl _) st from q) _ H rho (.refl _ _) s (rep_bl.mpr rfl)⟩
theorem sd_eq (hK : X.K = g.K) (hu : X.A.units + 64 < cLine) (ha : Sd g X a a') (hb : Sd g X b b') : Sd g X (.Compare a [.Eq] [b] pos) (.cm .eq a' b') := pe_imp (pe_cmpR (op_eqD hK hu) ha hb (nomark _)) fun sg H Q q => im_eq q
theorem sdt_eq (hK : X.K = g.K) (hu : X.A.units + 64 < cLine) (ha : Sd g X a a') (hb : Sd g X b b') : SdT g X (.Compare a [.Eq] [b] pos) (.cm .eq a' b') := pt_imp (pt_cmpR (op_eqD hK hu) ha hb (nomark _)) fun sg H Q q => im_eq (cmT q)
theorem im_ne  {sg : L2.St} {H : Hp} {Q : VK} (q : tE g (.cm .ne a' b') sg H Q) : tOp (rEqD g true) (tE g a') (tE g b') sg H Q := by
 obtain ⟨rho, st, env, s, n, q⟩ := q
 simp only [evalE] at q
 refine two (k := cmD .ne) ?_ s n q
 intro x y u v st rho H Q s rx ry q
 simp only [cmD] at q
 cases e : eqV st x y with
 | none => rw [e] at q; exact q.elim
 | some z =>
  rw [e] at q
  obtain ⟨p1, p2, h1, h2, rfl⟩ := eqV_some e
  exact ⟨rho, st, x, y, p1, p2, s, rx, ry, h1, h2, (show Post g rho H Q (.bl _) st from q) _ H rho (.refl _ _) s (rep_bl.mpr rfl)⟩
theorem sdt_ne (hK : X.K = g.K) (hu : X.A.units + 64 < cLine) (ha : Sd g X a a') (hb : Sd g X b b') : SdT g X (.Compare a [.NotEq] [b] pos) (.cm .ne a' b') := pt_imp (pt_cmpR (op_neD hK hu) ha hb (nomark _)) fun sg H Q q => im_ne (cmT q)
theorem ints2 {r : Int → Int → Bool} {k : Cm} (hk : ∀ x y st, cmD k x y st = match x, y with | .int i, .int j => .ok (.bl (r i j)) st | _, _ => .bad) {sg : L2.St} {H : Hp} {Q : VK}
    (q : tE g (.cm k a' b') sg H Q) : tOp (rI0 fun i j => .bl (r i j)) (tE g a') (tE g b') sg H Q := by
  obtain ⟨rho, st, env, s, n, q⟩ := q
  simp only [evalE] at q
  refine two (k := cmD k) ?_ s n q
  intro x y u v st rho H Q s rx ry q
  rw [hk] at q
  cases x with
  | int i =>
    cases y with
    | int j => exact ⟨i, j, rep_int.mp rx, rep_int.mp ry, q _ H rho (.refl _ _) s (rep_bl.mpr rfl)⟩
    | _ => exact q.elim
  | _ => exact q.elim
theorem sdt_lt (ha : Sd g X a a') (hb : Sd g X b b') : SdT g X (.Compare a [.Lt] [b] pos) (.cm .lt a' b') := pt_imp (pt_cmpR op_lt ha hb (nomark _)) fun sg H Q q => ints2 (fun x y st => by cases x <;> cases y <;> rfl) (cmT q)
theorem sdt_gt (ha : Sd g X a a') (hb : Sd g X b b') : SdT g X (.Compare a [.Gt] [b] pos) (.cm .gt a' b') := pt_imp (pt_cmpR op_gt ha hb (nomark _)) fun sg H Q q => ints2 (fun x y st => by cases x <;> cases y <;> rfl) (cmT q)
theorem seq_of {rho : List Addr} {st : Sto} {H : Hp} (s : g.Sto rho st H) {d : D} {v : V} {ds : List D} (r : g.Rep rho H d v) (h : seqOf st d = some ds) : ∃ p vs, v = .ref p ∧ (SqL g.K H p vs ∨ SqT g.K H p vs) ∧ g.RepL rho H ds vs := by
 cases d with
 | tup xs =>
  simp only [seqOf] at h; cases h
  obtain ⟨p, vs, e, q, rl⟩ := rep_tup.mp r
  exact ⟨p, vs, e, .inr q, rl⟩
 | loc n =>
  simp only [seqOf] at h
  obtain ⟨p, vs, h1, q, rl⟩ := sto_seq s h
  obtain ⟨p2, h2, e⟩ := rep_loc.mp r
  rw [h1] at h2; cases h2
  exact ⟨p, vs, e, .inl q, rl⟩
 | _ => cases h
theorem sto_dcn {rho : List Addr} {st : Sto} {H : Hp} {n : Nat} {kvs : List (D × D)} (s : g.Sto rho st H) (h : dcnOf st n = some kvs) : ∃ a xs, rho[n]? = some a ∧ st[n]? = some (.dcn kvs) ∧ H a = some (.ext (NDict g.cls.w a xs)) ∧ NvRep g.K rho H kvs xs := by
 unfold dcnOf at h
 split at h
 · rename_i kvs' e
   cases h
   have hl : n < rho.length := by rw [s.len]; exact (List.getElem?_eq_some_iff.mp e).1
   obtain ⟨xs, h1, h2⟩ := s.cells n rho[n] _ (List.getElem?_eq_getElem hl) e
   exact ⟨rho[n], xs, List.getElem?_eq_getElem hl, e, h1, h2⟩
 · cases h
theorem rep_keyN (hK : X.K = g.K) {pins : List (Addr × Obj)} {sg : L2.St} {H : Hp} {s : Shared} {rho : List Addr} {k : D} {v : V} {u : Value} (I : Inv X pins sg H s) (r : g.Rep rho H k v) (hk : keyN k = true) (rv : RelV v u) : ∃ q, (nestKind X.prog X.w).is s.heap k q ∧ u = .ref q := by
 cases k with
 | tup ds =>
  have ik := rep_isN_of hK I 8 _ _ _ r rv hk
  obtain ⟨q, vs, rfl, _⟩ := rep_tup.mp r
  cases rv
  exact ⟨q, ik, rfl⟩
 | _ => cases hk
noncomputable def rInD (g : G) (neg : Bool) : R2 := fun x y H Q => ∃ rho st a b z, g.Sto rho st H ∧ g.Rep rho H a x ∧ g.Rep rho H b y ∧ inD st a b = some z ∧ Q (.bl (if neg then !z else z)) H
theorem inS_some {st : Sto} {a b : D} {z : Bool} (h : inS st a b = some z) : ∃ p ys, pyOf st 40 a = some p ∧ (pyOf st 41 b = some (.list ys) ∨ pyOf st 41 b = some (.tuple ys)) ∧ z = ys.any fun y => PyData.eqv y p := by
 unfold inS at h
 split at h
 · rename_i x ys e1 e2; cases h; exact ⟨x, ys, e1, .inl e2, rfl⟩
 · rename_i x ys e1 e2; cases h; exact ⟨x, ys, e1, .inr e2, rfl⟩
 · cases h
theorem units_min {A : Around} (hu : A.units + 64 < cLine) {a b : Nat} (hb : b ≤ 40) : A.units + 1 + min a b < cLine := by
 have : min a b ≤ b := Nat.min_le_right _ _
 omega
theorem op_inS (hK : X.K = g.K) (hu : X.A.units + 64 < cLine) {pins : List (Addr × Obj)} {s : Shared} {sg : L2.St} {H : Hp} {rho : List Addr} {st : Sto} {a b : D} {x y : V} {v u : Value} {z : Bool} {Q : VK} (I : Inv X pins sg H s) (S : g.Sto rho st H) (r1 : g.Rep rho H a x) (r2 : g.Rep rho H b y) (rx : RelV x v) (ry : RelV y u)
    (h : inS st a b = some z) : (Q (.bl z) H → wpAny (model X.prog X.w) X.A (compareOp .In v u) (EP X pins sg Q) X.xe s) ∧ (Q (.bl (!z)) H → wpAny (model X.prog X.w) X.A (compareOp .NotIn v u) (EP X pins sg Q) X.xe s) := by
  obtain ⟨p, ys, e1, e2, rfl⟩ := inS_some h
  obtain ⟨as, h1⟩ := reads hK I S 40 a x v p r1 rx e1
  obtain ⟨c1, c2⟩ := py_shape 40 a p e1
  rcases e2 with e2 | e2
  · obtain ⟨bs, h2⟩ := reads hK I S 41 b y u _ r2 ry e2
    obtain ⟨c3, c4⟩ := py_shape 41 b _ e2
    exact ⟨fun q => PySem.SeqAt.in_list_reads h2 h1 c3 c1 (units_min hu c2) ⟨.bl _, H, I, rfl, q⟩, fun q => PySem.SeqAt.notIn_list_reads h2 h1 c3 c1 (units_min hu c2) ⟨.bl _, H, I, rfl, q⟩⟩
  · obtain ⟨bs, h2⟩ := reads hK I S 41 b y u _ r2 ry e2
    obtain ⟨c3, c4⟩ := py_shape 41 b _ e2
    exact ⟨fun q => PySem.SeqAt.in_tuple_reads h2 h1 c3 c1 (units_min hu c2) ⟨.bl _, H, I, rfl, q⟩, fun q => PySem.SeqAt.notIn_tuple_reads h2 h1 c3 c1 (units_min hu c2) ⟨.bl _, H, I, rfl, q⟩⟩
theorem op_inAny (hK : X.K = g.K) (hw : g.cls.w = X.w) (hu : X.A.units + 64 < cLine) {pins : List (Addr × Obj)} {s : Shared} {sg : L2.St} {H : Hp} {rho : List Addr} {st : Sto} {a b : D} {x y : V} {v u : Value} {z : Bool} {Q : VK} (I : Inv X pins sg H s) (S : g.Sto rho st H) (r1 : g.Rep rho H a x) (r2 : g.Rep rho H b y) (rx : RelV x v) (ry : RelV y u)
    (h : inD st a b = some z) : (Q (.bl z) H → wpAny (model X.prog X.w) X.A (compareOp .In v u) (EP X pins sg Q) X.xe s) ∧ (Q (.bl (!z)) H → wpAny (model X.prog X.w) X.A (compareOp .NotIn v u) (EP X pins sg Q) X.xe s) := by
  cases b with
  | str t =>
    simp only [inD] at h
    cases a with
    | str w =>
      cases h
      cases rep_str.mp r1; cases rep_str.mp r2
      exact ⟨fun q => op_in_str pins s sg H _ _ v u Q I rx ry ⟨_, _, rfl, rfl, q⟩, fun q => op_notin_str pins s sg H _ _ v u Q I rx ry ⟨_, _, rfl, rfl, q⟩⟩
    | _ => cases h
  | loc n =>
    simp only [inD] at h
    cases e9 : dcnOf st n with
    | none => rw [e9] at h; exact op_inS hK hu I S r1 r2 rx ry h
    | some kvs =>
      rw [e9] at h
      simp only at h
      split at h
      · rename_i hk
        cases h
        obtain ⟨p, xs, h1, _, h2, nv⟩ := sto_dcn S e9
        obtain ⟨p2, h4, rfl⟩ := rep_loc.mp r2
        rw [h1] at h4; cases h4
        obtain ⟨q9, ik, rfl⟩ := rep_keyN hK I r1 hk rx
        obtain rfl : u = Value.ref p := ry
        obtain ⟨hm, _, ys, pr, dd⟩ := nd_of hK hw I h2 nv
        have ev : (dLook kvs a).isSome = (atKey ys a).isSome := by
          obtain ⟨l1, l2⟩ := nv_look (k := a) nv pr
          cases z : dLook kvs a with
          | none => rw [l2 z]; rfl
          | some x => obtain ⟨_, _, _, e1, _⟩ := l1 x z; rw [e1]; rfl
        rw [ev]
        exact ⟨fun q => wpAny_in_heap (knd := nestKind X.prog X.w) (by show X.A.units + 1 + 16 < cLine; omega) ik hm dd ⟨.bl _, H, I.tok _, rfl, q⟩, fun q => PyProof.Rows.wpAny_notIn_heap (knd := nestKind X.prog X.w) (by show X.A.units + 1 + 16 < cLine; omega) ik hm dd ⟨.bl _, H, I.tok _, rfl, q⟩⟩
      · cases h
  | _ => exact op_inS hK hu I S r1 r2 rx ry h
theorem op_inD (hK : X.K = g.K) (hw : g.cls.w = X.w) (hu : X.A.units + 64 < cLine) : OpR X (compareOp .In) (rInD g false) := by
 rintro pins s sg H x y v u Q I rx ry ⟨rho, st, a, b, z, S, r1, r2, h, q⟩
 exact (op_inAny hK hw hu I S r1 r2 rx ry h).1 q
theorem op_notInD (hK : X.K = g.K) (hw : g.cls.w = X.w) (hu : X.A.units + 64 < cLine) : OpR X (compareOp .NotIn) (rInD g true) := by
 rintro pins s sg H x y v u Q I rx ry ⟨rho, st, a, b, z, S, r1, r2, h, q⟩
 exact (op_inAny hK hw hu I S r1 r2 rx ry h).2 q
theorem im_in {sg : L2.St} {H : Hp} {Q : VK} (q : tE g (.cm .inL a' b') sg H Q) : tOp (rInD g false) (tE g a') (tE g b') sg H Q := by
 obtain ⟨rho, st, env, s, n, q⟩ := q
 simp only [evalE] at q
 refine two (k := cmD .inL) ?_ s n q
 intro x y u v st rho H Q s rx ry q
 simp only [cmD] at q
 cases e : inD st x y with
 | none => rw [e] at q; exact q.elim
 | some z =>
  rw [e] at q
  exact ⟨rho, st, x, y, z, s, rx, ry, e, (show Post g rho H Q (.bl _) st from q) _ H rho (.refl _ _) s (rep_bl.mpr rfl)⟩
theorem im_notIn {sg : L2.St} {H : Hp} {Q : VK} (q : tE g (.cm .notIn a' b') sg H Q) : tOp (rInD g true) (tE g a') (tE g b') sg H Q := by
 obtain ⟨rho, st, env, s, n, q⟩ := q
 simp only [evalE] at q
 refine two (k := cmD .notIn) ?_ s n q
 intro x y u v st rho H Q s rx ry q
 simp only [cmD] at q
 cases e : inD st x y with
 | none => rw [e] at q; exact q.elim
 | some z =>
  rw [e] at q
  exact ⟨rho, st, x, y, z, s, rx, ry, e, (show Post g rho H Q (.bl _) st from q) _ H rho (.refl _ _) s (rep_bl.mpr rfl)⟩
theorem sdt_notIn (hK : X.K = g.K) (hw : g.cls.w = X.w) (hu : X.A.units + 64 < cLine) (ha : Sd g X a a') (hb : Sd g X b b') (hm : behindInMarks .NotIn b = false := by rfl) : SdT g X (.Compare a [.NotIn] [b] pos) (.cm .notIn a' b') := pt_imp (pt_cmpR (op_notInD hK hw hu) ha hb hm) fun sg H Q q => im_notIn (cmT q)
theorem sdt_in (hK : X.K = g.K) (hw : g.cls.w = X.w) (hu : X.A.units + 64 < cLine) (ha : Sd g X a a') (hb : Sd g X b b') (hm : behindInMarks .In b = false := by rfl) : SdT g X (.Compare a [.In] [b] pos) (.cm .inL a' b') := pt_imp (pt_cmpR (op_inD hK hw hu) ha hb hm) fun sg H Q q => im_in (cmT q)
theorem RepL_at {rho : List Addr} {H : Hp} {ds : List D} {vs : List V} {i : Int} {d : D} (r : g.RepL rho H ds vs) (h : atD ds i = some d) : ∃ v, atI vs i = some v ∧ g.Rep rho H d v := by
 unfold atD atI at h
 have hl := r.length
 cases e : ixN ds.length i with
 | none => rw [e] at h; cases h
 | some j =>
  rw [e] at h
  obtain ⟨v, e1, r1⟩ := r.get h
  refine ⟨v, ?_, r1⟩
  unfold atI
  rw [← hl, e]
  exact e1
noncomputable def rIxN (g : G) : R2 := fun x y H Q => ∃ p rho kvs xs k d, x = .ref p ∧ H p = some (.ext (NDict g.cls.w p xs)) ∧ NvRep g.K rho H kvs xs ∧ g.Rep rho H k y ∧ keyN k = true ∧ dLook kvs k = some d ∧ ∀ v, g.Rep rho H d v → Q v H
theorem ix_nest (hK : X.K = g.K) (hw : g.cls.w = X.w) (hu : X.A.units + 64 < cLine) : IxR X (rIxN g) := by
 intro value slice pins s sg H x y v u Q I rx ry h hs
 obtain ⟨p, rho, kvs, xs, k, d, rfl, hH, nv, rk, hk, ed, q⟩ := h
 obtain rfl : v = Value.ref p := rx
 obtain ⟨q9, ik, rfl⟩ := rep_keyN hK I rk hk ry
 obtain ⟨hm, _, ys, pr, dd⟩ := nd_of hK hw I hH nv
 obtain ⟨q2, w, uu, e1, e2, e3⟩ := (nv_look (k := k) nv pr).1 d ed
 exact PyProof.Rows.tail_any dd.typeIs PySem.F.slot_dict_getitem.lookup (wpAny_getItem_heap (knd := nestKind X.prog X.w) (by show X.A.units + 1 + 16 < cLine; omega) ik dd e1 ⟨w, H, I.tok _, e2, q w e3⟩) hs
theorem sd_ix (hK : X.K = g.K) (hw : g.cls.w = X.w) (hu : X.A.units + 64 < cLine) (ha : Sd g X a a') (hb : Sd g X b b') (hs : PlainIx b) : Sd g X (.Subscript a b pos) (.ix a' b') := pe_imp (pe_ix (ix_seq.or (ix_nest hK hw hu)) ha hb hs) fun sg H Q q => by
 obtain ⟨rho, st, env, s, n, q⟩ := q
 simp only [evalE] at q
 refine two (k := ixD) ?_ s n q
 intro x y u v st rho H Q s rx ry q
 have seq : RQ g (ixS x y st) (Post g rho H Q) rho H → rIx X.K u v H Q := by
  intro q
  cases y with
  | int i =>
   simp only [ixS] at q
   split at q
   · rename_i xs e
     split at q
     · rename_i d ed
       obtain ⟨p, vs, rfl, sq, rl⟩ := seq_of s rx e
       obtain ⟨w, e1, r1⟩ := RepL_at rl ed
       have fin : Q w H := (show Post g rho H Q d st from q) _ H rho (.refl _ _) s r1
       rw [← hK] at sq
       rcases sq with sq | sq
       · exact .inl ⟨p, vs, i, w, rfl, rep_int.mp ry, sq, e1, fin⟩
       · exact .inr (.inl ⟨p, vs, i, w, rfl, rep_int.mp ry, sq, e1, fin⟩)
     · exact q.elim
   · split at q
     · rename_i z _
       split at q
       · rename_i c ec
         split at q
         · rename_i hz
           exact .inr (.inr ⟨_, i, c, rep_str.mp rx, rep_int.mp ry, hz, ec, (show Post g rho H Q _ st from q) _ H rho (.refl _ _) s (rep_str.mpr rfl)⟩)
         · exact q.elim
       · exact q.elim
     · exact q.elim
  | _ => exact q.elim
 cases x with
 | loc n =>
  simp only [ixD] at q
  cases e9 : dcnOf st n with
  | none => rw [e9] at q; exact .inl (seq q)
  | some kvs =>
   rw [e9] at q
   simp only at q
   split at q
   · rename_i hk
     split at q
     · rename_i d ed
       obtain ⟨p, xs, h1, _, h2, nv⟩ := sto_dcn s e9
       obtain ⟨p2, h4, rfl⟩ := rep_loc.mp rx
       rw [h1] at h4; cases h4
       exact .inr (⟨p, rho, kvs, xs, y, d, rfl, h2, nv, ry, hk, ed, fun w rw1 => (show Post g rho H Q d st from q) _ H rho (.refl _ _) s rw1⟩)
     · exact q.elim
   · exact q.elim
 | _ => exact .inl (seq q)
end DD
namespace DD
open PySem PySem.Spec L2
variable {g : G} {X : Cx} {a b c : Expr} {a' b' c' : E} {pos : Pos} {rest es : List Expr} {es' : Es}
theorem sd_not (ha : Sd g X a a') : Sd g X (.UnaryOp .Not a pos) (.notE a') := pe_imp (pe_not ha) fun sg H Q q => by
 obtain ⟨rho, st, env, s, n, q⟩ := q
 simp only [evalE] at q
 refine step s n q fun x st1 u H1 r1 k1 s1 n1 rp q1 => ?_
 cases x with
 | bl t => exact ⟨t, rep_bl.mp rp, (show Post g rho H Q (.bl (!t)) st1 from q1) _ H1 r1 k1 s1 (rep_bl.mpr rfl)⟩
 | _ => exact q1.elim
theorem sd_if (hc : SdT g X c c') (ha : Sd g X a a') (hb : Sd g X b b') : Sd g X (.IfExp c a b pos) (.ifE c' a' b') := pe_imp (pe_ifExp hc ha hb) fun sg H Q q => by
 obtain ⟨rho, st, env, s, n, q⟩ := q
 simp only [evalE] at q
 refine stepT s n q fun t st1 H1 r1 k1 s1 n1 q1 => ?_
 cases t with
 | true => exact iteT ⟨r1, st1, env, s1, n1, RQ.mono (.refl _ _) q1 fun _ _ p => p.mono k1⟩
 | false => exact iteF ⟨r1, st1, env, s1, n1, RQ.mono (.refl _ _) q1 fun _ _ p => p.mono k1⟩
theorem bts {r : List V → Hp → VK → Prop} {f : Bt} (hr : ∀ ds vs st rho H Q, g.Sto rho st H → g.RepL rho H ds vs → RQ g (btD f ds st) (Post g rho H Q) rho H → r vs H Q) {sg : L2.St} {H : Hp} {Q : VK} (q : tE g (.bt f es') sg H Q) : tCB r (tEs g es') sg H Q := by
 obtain ⟨rho, st, env, s, n, q⟩ := q
 simp only [evalE] at q
 refine stepL s n q fun ds st1 vs H1 r1 k1 s1 n1 rps q1 => ?_
 exact hr ds vs st1 r1 H1 Q s1 rps (RQ.mono (.refl _ _) q1 fun _ _ p => p.mono k1)
theorem repL1 {rho : List Addr} {H : Hp} {d : D} {vs : List V} (r : g.RepL rho H [d] vs) : ∃ v, vs = [v] ∧ g.Rep rho H d v := by
 simp only [RepL] at r
 obtain ⟨v, t, rfl, r1, rfl⟩ := r
 exact ⟨v, rfl, r1⟩
theorem bt_one {f : Bt} {ds : List D} {st : Sto} {ok : D → Sto → Prop} {rho : List Addr} {H : Hp} (q : RQ g (btD f ds st) ok rho H) : ∃ d, ds = [d] := by
 cases ds with
 | nil => cases f <;> exact q.elim
 | cons d t =>
  cases t with
  | nil => exact ⟨d, rfl⟩
  | cons e u =>
   exfalso
   cases f <;> (cases d <;> exact q.elim)
theorem sd_int1 {e : Expr} {p : Pos} (hg : Gl X "int") (hm : X.mg "int" = none) (ha : SdL g X (e :: es) es') (he : starEach (e :: es) X.env = (false, eval e X.env) :: starEach es X.env := by rfl) (hpl : (backTo pos (starEach es X.env)).any (·.1) = false := by rfl) :
    Sd g X (.Call (.Name "int" p) (e :: es) [] pos) (.bt .intB es') := pe_imp (pe_callTy call_int1 hg hm rfl ha (by decide) (by decide) he hpl) fun sg H Q q => by
  refine bts (f := .intB) (fun ds vs st rho H Q s r q => ?_) q
  obtain ⟨d, rfl⟩ := bt_one q
  obtain ⟨v, rfl, r1⟩ := repL1 r
  cases d with
  | int i => cases rep_int.mp r1; exact .inl ⟨i, rfl, q _ H rho (.refl _ _) s (rep_int.mpr rfl)⟩
  | bl i => cases rep_bl.mp r1; exact .inr ⟨i, rfl, q _ H rho (.refl _ _) s (rep_int.mpr rfl)⟩
  | _ => exact q.elim
theorem sd_len {e : Expr} {p : Pos} (hK : X.K = g.K) (hg : Gl X "len") (hm : X.mg "len" = none) (ha : SdL g X (e :: es) es') (he : starEach (e :: es) X.env = (false, eval e X.env) :: starEach es X.env := by rfl) (hpl : (backTo pos (starEach es X.env)).any (·.1) = false := by rfl) :
    Sd g X (.Call (.Name "len" p) (e :: es) [] pos) (.bt .lenB es') := pe_imp (pe_callB (CallR.or call_len_seq call_len_str) hg hm rfl ha (by decide) (by decide) he hpl) fun sg H Q q => by
  refine bts (f := .lenB) (fun ds vs st rho H Q s r q => ?_) q
  obtain ⟨d, rfl⟩ := bt_one q
  obtain ⟨v, rfl, r1⟩ := repL1 r
  have seq : ∀ xs, seqOf st d = some xs → Post g rho H Q (.int xs.length) st → ∃ p ys, [v] = [V.ref p] ∧ (SqL X.K H p ys ∨ SqT X.K H p ys) ∧ Q (.int ys.length) H := by
    intro xs e q
    obtain ⟨p, ws, rfl, sq, rl⟩ := seq_of s r1 e
    refine ⟨p, ws, rfl, by rw [hK]; exact sq, ?_⟩
    rw [← rl.length]
    exact q _ H rho (.refl _ _) s (rep_int.mpr rfl)
  cases d with
  | tup xs => exact .inl (seq xs rfl q)
  | loc n =>
    simp only [btD] at q
    split at q
    · rename_i xs e
      exact .inl (seq xs e q)
    · exact q.elim
  | str z =>
    simp only [btD] at q
    split at q
    · rename_i hz
      cases rep_str.mp r1
      exact .inr ⟨z, rfl, hz, (show Post g rho H Q (.int _) st from q) _ H rho (.refl _ _) s (rep_int.mpr rfl)⟩
    · exact q.elim
  | _ => exact q.elim
theorem sd_tuple {e : Expr} {p : Pos} (hK : X.K = g.K) (hg : Gl X "tuple") (hm : X.mg "tuple" = none) (ha : SdL g X (e :: es) es') (he : starEach (e :: es) X.env = (false, eval e X.env) :: starEach es X.env := by rfl) (hpl : (backTo pos (starEach es X.env)).any (·.1) = false := by rfl) :
    Sd g X (.Call (.Name "tuple" p) (e :: es) [] pos) (.bt .tupleB es') := pe_imp (pe_callTy call_tuple_of hg hm rfl ha (by decide) (by decide) he hpl) fun sg H Q q => by
  refine bts (f := .tupleB) (fun ds vs st rho H Q s r q => ?_) q
  obtain ⟨d, rfl⟩ := bt_one q
  obtain ⟨v, rfl, r1⟩ := repL1 r
  simp only [btD] at q
  split at q
  · rename_i xs e
    have q : Post g rho H Q (.tup xs) st := q
    obtain ⟨p, ws, rfl, sq, rl⟩ := seq_of s r1 e
    rw [← hK] at sq
    refine ⟨p, ws, rfl, ?_⟩
    rcases sq with sq | sq
    · refine .inl ⟨sq, fun l hl => ?_⟩
      have e := same_upd hl (.tup ws)
      exact q (.ref l) _ rho (Same.keep e rho) (s.same e) (rep_tup.mpr ⟨l, ws, rfl, SqT.of upd_same, rl.mono (Same.keep e rho)⟩)
    · exact .inr ⟨sq, q (.ref p) H rho (.refl _ _) s (rep_tup.mpr ⟨p, ws, rfl, by rw [← hK]; exact sq, rl⟩)⟩
  · exact q.elim
noncomputable def spD (K : PySem.W.Frag) (cls : CW) (np : Nat) (run : List D → Sto → Res D) : Sp := fun vs H Q Ex => vs.length = np ∧ ∃ rho st ds, StoRep K cls rho st H ∧ RepL K rho H ds vs ∧
 match run ds st with
 | .ok d st' => ∀ v H' rho', Keep K rho H rho' H' → StoRep K cls rho' st' H' → Rep K rho' H' d v → Q v H'
 | .exc k st' => ∀ H' rho', Keep K rho H rho' H' → StoRep K cls rho' st' H' → Ex (.ref (cls k)) none H'
 | .bad => False
theorem sd_call {k f : Nat} {fa : Addr} {fd : FuncData} {ps : List Str} {x : Str} {p : Pos} {e : Expr} {dv : List D} {dvs : List V} {ds : List Value} {np : Nat}
    (F : FnOk X.prog X.w X.K X.mg X.base (CXd X.prog X.w) k fa fd ps (spD g.K g.cls np (g.call f))) (hr : Room k X.A) (hg : Gl X x) (hm : X.mg x = some (.ref fa)) (hk : PySem.W.keepIn X.K (.ref fa) = true) (hb : Binds X.K fd ps ds) (hd : Vals dvs ds)
    (hdv : ∀ rho H, g.RepL rho H dv dvs) (hx : Passes (CXd X.prog X.w) X g.xk) (hl : ∀ ds st, ds.length ≠ np → g.call f ds st = .bad) (ha : SdL g X (e :: es) es') (hdb : (x == ("__debug__" : Str)) = false := by decide)
    (he : starEach (e :: es) X.env = (false, eval e X.env) :: starEach es X.env := by rfl) (hpl : (backTo pos (starEach es X.env)).any (·.1) = false := by rfl) : Sd g X (.Call (.Name x p) (e :: es) [] pos) (.call f es' dv) :=
  pe_imp (pe_call F hr hg hm hk hb hd hx ha hdb he hpl) fun sg H Q q => by
    obtain ⟨rho, st, env, s, n, q⟩ := q
    simp only [evalE] at q
    refine stepL s n q fun ds st1 vs H1 r1 k1 s1 n1 rps q1 => ?_
    have rr := rps.append (hdv r1 H1)
    have hlen : (ds ++ dv).length = np := Decidable.byContradiction fun z => by rw [hl _ _ z] at q1; exact q1
    refine ⟨by rw [← rr.length]; exact hlen, r1, st1, ds ++ dv, s1, rr, ?_⟩
    revert q1
    cases g.call f (ds ++ dv) st1 with
    | ok d st' => exact fun q1 v H' rho' k s' r => (show Post g rho H Q d st' from q1) v H' rho' (k1.trans k) s' r
    | exc c st' => exact fun q1 H' rho' k s' => q1 H' rho' k s'
    | bad => exact fun q1 => q1
theorem sdt_and1 (ha : SdT g X a a') : PW X (.BoolOp .And [a] pos) (tT g a') := pw_and1 ha
theorem sdt_or1 (ha : SdT g X a a') : PW X (.BoolOp .Or [a] pos) (tT g a') := pw_or1 ha
theorem pw_imp {t t' : TT} {e : Expr} (h : PW X e t) (hi : ∀ sg H Q, t' sg H Q → t sg H Q) : PW X e t' := fun whole pins s sg H Q I q => h whole pins s sg H Q I (hi _ _ _ q)
theorem sdt_and (ha : SdT g X a a') (hb : PW X (.BoolOp .And (b :: rest) pos) (tT g b')) : PW X (.BoolOp .And (a :: b :: rest) pos) (tT g (.andE a' b')) := pw_imp (pw_and ha hb) fun sg H Q q => by
 obtain ⟨rho, st, env, s, n, q⟩ := q
 simp only [evalT] at q
 refine stepT s n q fun t st1 H1 r1 k1 s1 n1 q1 => ?_
 cases t with
 | true => exact iteT ⟨r1, st1, env, s1, n1, RQ.mono (.refl _ _) q1 fun _ _ p => p.mono k1⟩
 | false => exact iteF ((show PostB g rho H Q false st1 from q1) H1 r1 k1 s1)
theorem sdt_or (ha : SdT g X a a') (hb : PW X (.BoolOp .Or (b :: rest) pos) (tT g b')) : PW X (.BoolOp .Or (a :: b :: rest) pos) (tT g (.orE a' b')) := pw_imp (pw_or ha hb) fun sg H Q q => by
 obtain ⟨rho, st, env, s, n, q⟩ := q
 simp only [evalT] at q
 refine stepT s n q fun t st1 H1 r1 k1 s1 n1 q1 => ?_
 cases t with
 | true => exact iteT ((show PostB g rho H Q true st1 from q1) H1 r1 k1 s1)
 | false => exact iteF ⟨r1, st1, env, s1, n1, RQ.mono (.refl _ _) q1 fun _ _ p => p.mono k1⟩
theorem sdt_not (ha : SdT g X a a') : SdT g X (.UnaryOp .Not a pos) (.notE a') := pt_imp (pt_not ha) fun sg H Q q => by
 obtain ⟨rho, st, env, s, n, q⟩ := q
 simp only [evalT] at q
 refine stepT s n q fun t st1 H1 r1 k1 s1 n1 q1 => ?_
 exact (show PostB g rho H Q (!t) st1 from q1) H1 r1 k1 s1
theorem tru_of {rho : List Addr} {st : Sto} {H : Hp} (s : g.Sto rho st H) {d : D} {v : V} {k : Bool} (r : g.Rep rho H d v) (h : truth st d = some k) : TruV g.K v H k := by
 cases d with
 | non => cases rep_non.mp r; simp [truth] at h; subst h; rfl
 | bl b => cases rep_bl.mp r; simp [truth] at h; subst h; rfl
 | int i => cases rep_int.mp r; simp only [truth] at h; cases h; rfl
 | str x =>
  cases rep_str.mp r
  simp only [truth] at h
  split at h
  · rename_i z; cases h; exact ⟨z, rfl⟩
  · cases h
 | tup ds =>
  obtain ⟨a, vs, rfl, q, rl⟩ := rep_tup.mp r
  simp only [truth] at h; cases h
  have hl := rl.length
  exact .inr (.inl ⟨vs, q, by cases ds <;> cases vs <;> simp_all⟩)
 | loc n =>
  simp only [truth] at h
  cases el : lstOf st n with
  | none => rw [el] at h; cases h
  | some ds =>
   rw [el] at h; cases h
   obtain ⟨a, vs, h1, q, rl⟩ := sto_seq s el
   obtain ⟨a2, h2, rfl⟩ := rep_loc.mp r
   rw [h1] at h2; cases h2
   have hl := rl.length
   exact .inl ⟨vs, q, by cases ds <;> cases vs <;> simp_all⟩
theorem sdt_val (hK : X.K = g.K) (ha : Sd g X a a') (hev : ∀ env st, evalT g.tab g.call a' env st = (evalE g.tab g.call a' env st).bind fun d st => match truth st d with | some b => .ok b st | none => .bad)
    (he : ∀ whole, isTrue a X.env whole = (do let v ← whole; standAt a.pos; holding [v] (truthy v))) : SdT g X a a' := pt_imp (pt_truth ha he) fun sg H Q q => by
  obtain ⟨rho, st, env, s, n, q⟩ := q
  rw [hev] at q
  refine step s n q fun d st1 v H1 r1 k1 s1 n1 rp q1 => ?_
  cases e : truth st1 d with
  | none => rw [e] at q1; exact q1.elim
  | some k =>
    rw [e] at q1
    exact ⟨k, by rw [hK]; exact tru_of s1 rp e, (show PostB g rho H Q k st1 from q1) H1 r1 k1 s1⟩
end DD
namespace DD
open PySem PySem.Spec L2
variable {g : G} {X : Cx} {a b c : Expr} {a' b' c' : E} {pos : Pos} {rest es : List Expr} {es' : Es}
noncomputable def kb (t T : String) : Option Bool := if ((Value.type t == Value.type T) = true) then some true else if PySem.W.kitMeta T = true then (fastBuiltinMro t).map (·.contains (.type T)) else none
theorem kit_kb (K : PySem.W.Frag) (t T : String) : PySem.W.kitOne K (.type t) (.type T) = kb t T := rfl
theorem kit_b (K : PySem.W.Frag) {t T : String} (ht : t ∈ ["NoneType", "bool", "int", "str", "tuple", "list", "dict"]) (hT : T ∈ ["bool", "int", "tuple", "list", "str", "dict"]) : PySem.W.kitOne K (.type t) (.type T) = subB t T := by
 rw [kit_kb]
 simp only [List.mem_cons, List.mem_nil_iff, or_false] at ht hT
 rcases ht with rfl | rfl | rfl | rfl | rfl | rfl | rfl <;> rcases hT with rfl | rfl | rfl | rfl | rfl | rfl <;> first | rfl | kernel_rfl | decide +kernel
def rIsi (g : G) (K : PySem.W.Frag) (T : Ty) (u : Value) : List V → Hp → VK → Prop := fun xs H Q => ∃ rho st d x cv t k, xs = [x, cv] ∧ RelV cv u ∧ g.Sto rho st H ∧ g.Rep rho H d x ∧ tyOf st d = some t ∧ subT g.tab t T = some k ∧ Q (.bl k) H
theorem call_isi {T : Ty} {u : Value} (hK : X.K = g.K) (hu : ∀ v w, RelV v u → RelV v w → w = u) (hB : ∀ t k, t ∈ ["NoneType", "bool", "int", "str", "tuple", "list", "dict"] → subT g.tab (.b t) T = some k → PySem.W.kitOne X.K (.type t) u = some k)
    (hO : ∀ n k, g.tab n T = some k → ExcC X.K (g.cls n) ∧ PySem.W.kitOne X.K (.ref (g.cls n)) u = some k) : CallR X (.builtin "isinstance") (rIsi g X.K T u) := by
  intro pins s sg H xs us Q I rv h
  obtain ⟨rho, st, d, x, cv, t, k, rfl, rc, S, r, ht, hs, q⟩ := h
  obtain ⟨u1, u2, rfl, ru1, ru2⟩ := vals2 rv
  obtain rfl := hu cv u2 rc ru2
  have fin : ∀ tk, EP X pins sg Q (.bool k) { s with toks := tk } := fun tk => ⟨.bl k, H, I.tok tk, rfl, q⟩
  cases d with
  | non =>
    cases rep_non.mp r; cases ru1; cases ht
    exact PySem.W.kia_one PySem.W.kitx_none I.kIn True.intro (hB _ _ (by simp) hs) (fun z => nomatch z) fin
  | bl y =>
    cases rep_bl.mp r; cases ru1; cases ht
    exact PySem.W.kia_one PySem.W.kitx_bool I.kIn True.intro (hB _ _ (by simp) hs) (fun z => nomatch z) fin
  | int i =>
    cases rep_int.mp r; obtain ⟨_, rfl⟩ := ru1; cases ht
    exact PySem.W.kia_one PySem.W.kitx_int I.kIn True.intro (hB _ _ (by simp) hs) (fun z => nomatch z) fin
  | str i =>
    cases rep_str.mp r; obtain ⟨_, rfl⟩ := ru1; cases ht
    exact PySem.W.kia_one PySem.W.kitx_str I.kIn True.intro (hB _ _ (by simp) hs) (fun z => nomatch z) fin
  | tup ds =>
    obtain ⟨p, vs, rfl, sq, rl⟩ := rep_tup.mp r
    cases ru1; cases ht
    rw [← hK] at sq
    obtain ⟨its, rvs, ⟨o, ho, hc, n', hd⟩, _⟩ := I.tuple sq
    exact PySem.W.kia_one PySem.W.kitx_tuple I.kIn ⟨o, ho, hc⟩ (hB _ _ (by simp) hs) (fun z => nomatch z) fin
  | loc n =>
    obtain ⟨p, hp, rfl⟩ := rep_loc.mp r
    cases ru1
    simp only [tyOf] at ht
    cases ec : st[n]? with
    | none => rw [ec] at ht; cases ht
    | some cl =>
      rw [ec] at ht
      have cr := S.cells n p cl hp ec
      cases cl with
      | lst ds =>
        cases ht
        obtain ⟨vs, hH, _⟩ := cr
        obtain ⟨_, _, n', _, h1⟩ := (show ObjOk X.prog X.w H s.heap p (.lst vs) from I.hok p _ hH)
        exact PySem.W.kia_one PySem.W.kitx_list I.kIn ⟨_, h1, rfl⟩ (hB _ _ (by simp) hs) (fun z => nomatch z) fin
      | frz ds =>
        cases ht
        obtain ⟨vs, hH, _⟩ := cr
        rcases hH with ⟨o, hH⟩ | ⟨o, its, n', hk, hc, _⟩
        · obtain ⟨_, _, _, n', _, h1⟩ := (show ObjOk X.prog X.w H s.heap p (.frz o (.lst vs)) from I.hok p _ hH)
          exact PySem.W.kia_one PySem.W.kitx_list I.kIn ⟨_, h1, rfl⟩ (hB _ _ (by simp) hs) (fun z => nomatch z) fin
        · rw [← hK] at hk
          exact PySem.W.kia_one PySem.W.kitx_list I.kIn ⟨o, I.kIn _ _ hk, hc⟩ (hB _ _ (by simp) hs) (fun z => nomatch z) fin
      | dct kvs =>
        cases ht
        obtain ⟨ws, hH, _⟩ := cr
        obtain ⟨_, _, vs, _, o, es, ep, h1, h2, _⟩ := (show ObjOk X.prog X.w H s.heap p (.dK ws) from I.hok p _ hH)
        exact PySem.W.kia_one PySem.W.kitx_dict I.kIn ⟨o, h1, h2.1⟩ (hB _ _ (by simp) hs) (fun z => nomatch z) fin
      | ins m fs => cases ht
      | dcn kvs =>
        cases ht
        obtain ⟨ws, hH, _⟩ := cr
        obtain ⟨⟨_, _, _, o, es, ep, h1, h2, _⟩, _⟩ := (show ObjOk X.prog X.w H s.heap p (.ext _) from I.hok p _ hH)
        exact PySem.W.kia_one PySem.W.kitx_dict I.kIn ⟨o, h1, h2.1⟩ (hB _ _ (by simp) hs) (fun z => nomatch z) fin
      | dcf kvs =>
        cases ht
        obtain ⟨ws, u, hH, _⟩ := cr
        obtain ⟨_, _, _, vs, _, o, es, ep, h1, h2, _⟩ := (show ObjOk X.prog X.w H s.heap p (.frz u (.dK ws)) from I.hok p _ hH)
        exact PySem.W.kia_one PySem.W.kitx_dict I.kIn ⟨o, h1, h2.1⟩ (hB _ _ (by simp) hs) (fun z => nomatch z) fin
      | fnc i => exact cr.elim
      | exn m =>
        cases ht
        have hH : H p = some (.ext (ExcIs p (.ref (g.cls m)))) := cr
        obtain ⟨⟨o, ws, h1, h2, h3⟩, _⟩ := (show ObjOk X.prog X.w H s.heap p (.ext (ExcIs p (.ref (g.cls m)))) from I.hok p _ hH)
        obtain ⟨x1, x2⟩ := hO m k hs
        exact PySem.W.kia_one (kitx_exc x1) I.kIn ⟨o, h1, h2⟩ x2 (fun z => nomatch z) fin
end DD
namespace DD
open PySem PySem.Spec L2
variable {g : G} {X : Cx} {a b c : Expr} {a' b' c' : E} {pos : Pos} {rest es : List Expr} {es' : Es}
theorem im_isi {T : Ty} {u : Value} {cv : V} (hc : RelV cv u) {sg : L2.St} {H : Hp} {Q : VK} (q : tE g (.isi a' T) sg H Q) : tCB (rIsi g X.K T u) (tCons (tE g a') (tCons (tC cv) tNil)) sg H Q := by
 obtain ⟨rho, st, env, s, n, q⟩ := q
 simp only [evalE] at q
 refine step s n q fun d st1 v H1 r1 k1 s1 n1 rp q1 => ?_
 show rIsi g X.K T u [v, cv] H1 Q
 cases et : tyOf st1 d with
 | none => rw [et] at q1; exact q1.elim
 | some t =>
  rw [et] at q1
  simp only [Option.bind_some] at q1
  cases ek : subT g.tab t T with
  | none => rw [ek] at q1; exact q1.elim
  | some k =>
   rw [ek] at q1
   exact ⟨r1, st1, d, v, cv, t, k, rfl, hc, s1, rp, et, ek, (show Post g rho H Q (.bl k) st1 from q1) _ H1 r1 k1 s1 (rep_bl.mpr rfl)⟩
theorem sd_isiB {T : String} {x : Str} {p p2 : Pos} (hK : X.K = g.K) (hT : T ∈ ["bool", "int", "tuple", "list", "str", "dict"]) (hO : ∀ n, g.tab n (.b T) = none) (hg : Gl X "isinstance") (hm : X.mg "isinstance" = none) (hg2 : Gl X x) (hm2 : X.mg x = none) (hv : bootBuiltins x = some (.type T)) (ha : Sd g X a a')
    (hn : x ≠ "__name__" := by decide) (hd : (x == ("__debug__" : Str)) = false := by decide) (he : starEach [a, .Name x p2] X.env = (false, eval a X.env) :: starEach [.Name x p2] X.env := by rfl) (he2 : starEach [.Name x p2] X.env = (false, eval (.Name x p2) X.env) :: starEach [] X.env := by rfl) (hpl : (backTo pos (starEach [.Name x p2] X.env)).any (·.1) = false := by rfl) :
    Sd g X (.Call (.Name "isinstance" p) [a, .Name x p2] [] pos) (.isi a' (.b T)) := by
  have hc := call_isi (X := X) (T := .b T) (u := .type T) hK (fun v w h1 h2 => by cases v <;> first | (cases h1; exact h2) | (obtain ⟨_, z⟩ := h1; cases z) | cases h1) (fun t k ht hs => by rw [kit_b X.K ht hT]; exact hs) (fun n k h => by rw [hO n] at h; cases h)
  exact pe_imp (pe_callB hc hg hm rfl (pa_cons ha (pa_cons (pe_bltn (v := .ty T) hg2 hm2 hv rfl hn hd) pa_nil he2) he) (by decide) (by decide) he hpl) fun sg H Q q => im_isi (cv := .ty T) rfl q
end DD
namespace DD
open PySem PySem.Spec L2
variable {g : G} {X : Cx} {a b c : Expr} {a' b' c' : E} {pos : Pos} {rest es : List Expr} {es' : Es} {F : Nat}
def PostF (g : G) (rho : List Addr) (H : Hp) (D : Ends) (f : Fl) (st : Sto) : Prop := match f with
 | .next env => ∀ sg H' rho', g.Keep rho H rho' H' → g.Sto rho' st H' → g.Env rho' H' env sg → D.nx sg H'
 | .brk env => ∀ sg H' rho', g.Keep rho H rho' H' → g.Sto rho' st H' → g.Env rho' H' env sg → D.bk sg H'
 | .cont env => ∀ sg H' rho', g.Keep rho H rho' H' → g.Sto rho' st H' → g.Env rho' H' env sg → D.ct sg H'
 | .ret d => ∀ v H' rho', g.Keep rho H rho' H' → g.Sto rho' st H' → g.Rep rho' H' d v → D.rt v H'
theorem PostF.mono {rho rho' : List Addr} {H H' : Hp} {D : Ends} {f : Fl} {st : Sto} (k : g.Keep rho H rho' H') (h : PostF g rho H D f st) : PostF g rho' H' D f st := by
 cases f <;> exact fun x H2 r2 k2 => h x H2 r2 (k.trans k2)
noncomputable def tS (g : G) (F : Nat) (s : S) : TS := fun D sg H => ∃ rho st env, g.Sto rho st H ∧ g.Env rho H env sg ∧ RQ g (execS g.tab g.call F s env st) (PostF g rho H D) rho H
noncomputable def tSs (g : G) (F : Nat) (s : Ss) : TS := fun D sg H => ∃ rho st env, g.Sto rho st H ∧ g.Env rho H env sg ∧ RQ g (execSs g.tab g.call F s env st) (PostF g rho H D) rho H
def SdS (g : G) (X : Cx) (F : Nat) (st : Stmt) (s : S) : Prop := PS X st (tS g F s)
def SdSs (g : G) (X : Cx) (F : Nat) (st : List Stmt) (s : Ss) : Prop := PSs X st (tSs g F s)
theorem ps_imp {t t' : TS} {e : Stmt} (h : PS X e t) (hi : ∀ D sg H, t' D sg H → t D sg H) : PS X e t' := fun pins s sg H D I q => h pins s sg H D I (hi _ _ _ q)
theorem pss_imp {t t' : TS} {e : List Stmt} (h : PSs X e t) (hi : ∀ D sg H, t' D sg H → t D sg H) : PSs X e t' := fun pins s sg H D I q => h pins s sg H D I (hi _ _ _ q)
theorem ss_nil : SdSs g X F [] .nil := pss_imp pss_nil fun D sg H q => by
 obtain ⟨rho, st, env, s, n, q⟩ := q
 exact (show PostF g rho H D (.next env) st from q) sg H rho (.refl _ _) s n
theorem ss_cons {s1 : Stmt} {r1 : List Stmt} {s1' : S} {r1' : Ss} (h : SdS g X F s1 s1') (t : SdSs g X F r1 r1') : SdSs g X F (s1 :: r1) (.cons s1' r1') := pss_imp (pss_cons h t) fun D sg H q => by
 obtain ⟨rho, st, env, s, n, q⟩ := q
 refine ⟨rho, st, env, s, n, ?_⟩
 simp only [execSs] at q
 revert q
 cases execS g.tab g.call F s1' env st with
 | bad => exact fun q => q
 | exc c st1 => exact fun q => q
 | ok f st1 =>
  simp only [bind_ok]
  cases f with
  | next env1 => exact fun q sg1 H1 rho1 k1 s1 n1 => ⟨rho1, st1, env1, s1, n1, RQ.mono k1 q fun f st p => PostF.mono k1 p⟩
  | ret d => exact fun q => q
  | brk env1 => exact fun q => q
  | cont env1 => exact fun q => q
theorem s_set {i : Nat} {x : Str} {e : Expr} {e' : E} {pos' : Pos} (hN : X.N.Nodup) (hi : X.N[i]? = some x) (hx : Loc X.env.scope x) (he : Sd g X e e') (hs : swapsWith e (some (.Name x pos')) pos.line X.env = pure false := by rfl) (hf : X.fn x = true ∨ X.env.scope.names.lookup x = some .local := by first | exact .inl rfl | exact .inr rfl | assumption) :
    SdS g X F (.Assign [.Name x pos'] e pos) (.set i e') := ps_imp (ps_set hN hi hx he hs hf) fun D sg H q => by
  obtain ⟨rho, st, env, s, n, q⟩ := q
  simp only [execS] at q
  refine step s n q fun d st1 v H1 r1 k1 s1 n1 rp q1 => ?_
  split at q1
  · exact (show PostF g rho H D (.next _) st1 from q1) _ H1 r1 k1 s1 (n1.set i rp)
  · exact q1.elim
theorem s_ret {e : Expr} {e' : E} (he : Sd g X e e') : SdS g X F (.Return (some e) pos) (.ret e') := ps_imp (ps_ret he) fun D sg H q => by
 obtain ⟨rho, st, env, s, n, q⟩ := q
 simp only [execS] at q
 refine step s n q fun d st1 v H1 r1 k1 s1 n1 rp q1 => ?_
 exact (show PostF g rho H D (.ret d) st1 from q1) v H1 r1 k1 s1 rp
theorem s_ex {e : Expr} {e' : E} (he : Sd g X e e') (hs : swapsWith e none pos.line X.env = pure false := by rfl) : SdS g X F (.Expr e pos) (.ex e') := ps_imp (ps_expr he hs) fun D sg H q => by
 obtain ⟨rho, st, env, s, n, q⟩ := q
 simp only [execS] at q
 refine step s n q fun d st1 v H1 r1 k1 s1 n1 rp q1 => ?_
 exact (show PostF g rho H D (.next env) st1 from q1) sg H1 r1 k1 s1 n1
theorem s_if {c : Expr} {c' : E} {x y : List Stmt} {x' y' : Ss} (hc : SdT g X c c') (hx : SdSs g X F x x') (hy : SdSs g X F y y') : SdS g X F (.If c x y pos) (.ifS c' x' y') := ps_imp (ps_if hc hx hy) fun D sg H q => by
 obtain ⟨rho, st, env, s, n, q⟩ := q
 simp only [execS] at q
 refine stepT s n q fun t st1 H1 r1 k1 s1 n1 q1 => ?_
 cases t with
 | true => exact iteT ⟨r1, st1, env, s1, n1, RQ.mono (.refl _ _) q1 fun _ _ p => p.mono k1⟩
 | false => exact iteF ⟨r1, st1, env, s1, n1, RQ.mono (.refl _ _) q1 fun _ _ p => p.mono k1⟩
theorem s_while {c : Expr} {c' : E} {x : List Stmt} {x' : Ss} (hp : PassesOwn (model X.prog X.w) X.A X.env X.xe) (hc : SdT g X c c') (hx : SdSs g X F x x') : SdS g X F (.While c x [] pos) (.whileS c' x') := ps_imp (ps_while hp hc hx) fun D sg H q => by
 obtain ⟨rho, st, env, s, n, q⟩ := q
 simp only [execS] at q
 refine ⟨fun m sg H => ∃ rho st env, g.Sto rho st H ∧ g.Env rho H env sg ∧ RQ g (whileLoop (evalT g.tab g.call c') (execSs g.tab g.call F x') m env st) (PostF g rho H D) rho H, ⟨F, rho, st, env, s, n, q⟩, ?_⟩
 rintro m sg H ⟨rho, st, env, s, n, q⟩
 cases m with
 | zero => exact q.elim
 | succ m =>
  simp only [whileLoop] at q
  refine stepT s n q fun t st1 H1 r1 k1 s1 n1 q1 => ?_
  cases t with
  | false =>
   refine iteF ?_
   exact (show PostF g rho H D (.next env) st1 from q1) sg H1 r1 k1 s1 n1
  | true =>
   refine iteT ⟨fun sg H => ∃ rho st env, g.Sto rho st H ∧ g.Env rho H env sg ∧ RQ g (whileLoop (evalT g.tab g.call c') (execSs g.tab g.call F x') m env st) (PostF g rho H D) rho H, fun sg' H' h => ⟨m, Nat.lt_succ_self m, h⟩, r1, st1, env, s1, n1, ?_⟩
   revert q1
   cases execSs g.tab g.call F x' env st1 with
   | bad => exact fun q => q
   | exc c st2 => exact fun q => q
   | ok f st2 =>
    simp only [bind_ok]
    cases f with
    | next env2 => exact fun q sg2 H2 r2 k2 s2 n2 => ⟨r2, st2, env2, s2, n2, RQ.mono k2 q fun f st p => PostF.mono (k1.trans k2) p⟩
    | cont env2 => exact fun q sg2 H2 r2 k2 s2 n2 => ⟨r2, st2, env2, s2, n2, RQ.mono k2 q fun f st p => PostF.mono (k1.trans k2) p⟩
    | brk env2 => exact fun q => PostF.mono (f := .next env2) k1 q
    | ret d => exact fun q => PostF.mono (f := .ret d) k1 q
end DD
namespace DD
open PySem PySem.Spec L2
variable {g : G} {X : Cx} {a b c : Expr} {a' b' c' : E} {pos : Pos} {rest es : List Expr} {es' : Es} {F : Nat}
noncomputable def gs : List Nat → TGs
 | [] => gNil
 | i :: r => gCons (gName i) (gs r)
noncomputable def tg (K : PySem.W.Frag) (is : List Nat) (one : Bool) : TG := if one then (match is with | [i] => gName i | _ => fun _ _ _ _ => False) else gTup K is.length (gs is)
theorem gs_store {rho : List Addr} {H : Hp} {Q : L2.St → Hp → Prop} : ∀ {is : List Nat} {ds : List D} {vs : List V} {env env' : Env} {sg : L2.St}, setAll is ds env = some env' → g.RepL rho H ds vs → g.Env rho H env sg → (∀ sg', g.Env rho H env' sg' → Q sg' H) → gs is vs sg H Q
 | [], [], vs, env, env', sg, e, r, n, h => by
  simp only [RepL] at r; subst r
  simp only [setAll] at e; cases e
  exact ⟨rfl, h sg n⟩
 | [], d :: t, vs, env, env', sg, e, r, n, h => by simp [setAll] at e
 | i :: t, [], vs, env, env', sg, e, r, n, h => by simp [setAll] at e
 | i :: t, d :: u, vs, env, env', sg, e, r, n, h => by
  simp only [RepL] at r
  obtain ⟨v, w, rfl, r1, r2⟩ := r
  simp only [setAll] at e
  split at e
  · exact ⟨v, w, rfl, gs_store e r2 (n.set i r1) h⟩
  · cases e
theorem tg_store {rho : List Addr} {H : Hp} {Q : L2.St → Hp → Prop} {is : List Nat} {one : Bool} {d : D} {v : V} {env env' : Env} {sg : L2.St} (e : store is one d env = some env') (r : g.Rep rho H d v) (n : g.Env rho H env sg) (h : ∀ sg', g.Env rho H env' sg' → Q sg' H) : tg g.K is one v sg H Q := by
 unfold store at e
 unfold tg
 cases one with
 | true =>
  rw [if_pos rfl] at e ⊢
  match is, e with
  | [i], e =>
   simp only [setAll] at e
   split at e
   · cases e; exact h _ (n.set i r)
   · cases e
  | [], e => simp [setAll] at e
  | i :: j :: t, e => simp [setAll] at e
 | false =>
  rw [if_neg Bool.false_ne_true] at e ⊢
  cases d with
  | tup ds =>
   obtain ⟨p, vs, rfl, q, rl⟩ := rep_tup.mp r
   refine ⟨p, vs, rfl, q, ?_, gs_store e rl n h⟩
   have : ∀ {is : List Nat} {ds : List D} {env env' : Env}, setAll is ds env = some env' → is.length = ds.length := by
    intro is
    induction is with
    | nil => intro ds env env' e; cases ds with
     | nil => rfl
     | cons _ _ => simp [setAll] at e
    | cons i t ih => intro ds env env' e; cases ds with
     | nil => simp [setAll] at e
     | cons _ _ =>
      simp only [setAll] at e
      split at e
      · simp [ih e]
      · cases e
   rw [← rl.length, this e]
  | _ => cases e
theorem tg_one {i : Nat} {x : Str} (hN : X.N.Nodup) (hi : X.N[i]? = some x) (hx : Loc X.env.scope x) (hf : X.fn x = true ∨ X.env.scope.names.lookup x = some .local := by first | exact .inl rfl | exact .inr rfl | assumption) : PG X (.Name x pos) (tg g.K [i] true) := pg_name hN hi hx hf
theorem s_unp {is : List Nat} {tgt e : Expr} {e' : E} (he : Sd g X e e') (hg : PG X tgt (tg g.K is false)) (hs : swapsWithSole [tgt] e pos.line X.env = pure false := by rfl) (hw : swappedStores [tgt] e X.env = pure none := by rfl)
    (h1 : (assignEach [tgt] X.env).map (·.2) = [assign tgt X.env] := by rfl) : SdS g X F (.Assign [tgt] e pos) (.unp is e') := ps_imp (ps_asg he hg hs hw h1) fun D sg H q => by
  obtain ⟨rho, st, env, s, n, q⟩ := q
  simp only [execS] at q
  refine step s n q fun d st1 v H1 r1 k1 s1 n1 rp q1 => ?_
  split at q1
  · rename_i env' e1
    exact tg_store e1 rp n1 fun sg' n' => (show PostF g rho H D (.next env') st1 from q1) sg' H1 r1 k1 s1 n'
  · exact q1.elim
theorem for_any {J : It} {xs : List D} {p : Option Nat} {is : List Nat} {one : Bool} {x' : Ss} {r1 : List Addr} {H1 : Hp} {D : Ends} {sg : L2.St} {st1 : Sto} {env : Env}
    (hJ : ∀ rho st H, g.Keep r1 H1 rho H → g.Sto rho st H → stays st p xs = true → J.stop xs.length H ∧ ∀ (i : Nat) (d : DD.D), xs[i]? = some d → J.go i H ∧ ∀ x H', J.yld i H x H' → H' = H ∧ g.Rep rho H d x)
    (s1 : g.Sto r1 st1 H1) (n1 : g.Env r1 H1 env sg) (q1 : RQ g (forLoop xs p (fun d env st => match store is one d env with | some env' => execSs g.tab g.call F x' env' st | none => .bad) xs env st1) (PostF g r1 H1 D) r1 H1) :
    ∃ W : Nat → Nat → L2.St → Hp → Prop, (∃ m, W 0 m sg H1) ∧ ∀ i m sg H, W i m sg H →
      (J.stop i H ∧ D.nx sg H) ∨ (J.go i H ∧ ∃ N : L2.St → Hp → Prop, (∀ sg' H', N sg' H' → ∃ m', m' < m ∧ W (i + 1) m' sg' H') ∧ ∀ x H', J.yld i H x H' → tg g.K is one x sg H' fun sg2 H2 => tSs g F x' { D with nx := N, ct := N, bk := D.nx } sg2 H2) := by
  refine ⟨fun i m sg H => m = xs.length - i ∧ i ≤ xs.length ∧ ∃ rho st env, g.Keep r1 H1 rho H ∧ g.Sto rho st H ∧ g.Env rho H env sg ∧ RQ g (forLoop xs p (fun d env st => match store is one d env with | some env' => execSs g.tab g.call F x' env' st | none => .bad) (xs.drop i) env st) (PostF g rho H D) rho H, ⟨xs.length, by simp, Nat.zero_le _, r1, st1, env, .refl _ _, s1, n1, q1⟩, ?_⟩
  rintro i m sg H ⟨rfl, hi, rho, st, env, kk, s, n, q⟩
  have hst : stays st p xs = true := by
    cases z : stays st p xs with
    | true => rfl
    | false =>
      exfalso
      cases e : xs.drop i with
      | nil => rw [e] at q; simp only [forLoop, z] at q; exact q
      | cons d t => rw [e] at q; simp only [forLoop, z] at q; exact q
  obtain ⟨h1, h2⟩ := hJ rho st H kk s hst
  by_cases hlt : i < xs.length
  · obtain ⟨hgo, hy⟩ := h2 i xs[i] (List.getElem?_eq_getElem hlt)
    refine .inr ⟨hgo, fun sg H => i + 1 ≤ xs.length ∧ ∃ rho st env, g.Keep r1 H1 rho H ∧ g.Sto rho st H ∧ g.Env rho H env sg ∧ RQ g (forLoop xs p (fun d env st => match store is one d env with | some env' => execSs g.tab g.call F x' env' st | none => .bad) (xs.drop (i + 1)) env st) (PostF g rho H D) rho H, fun sg' H' h => ⟨xs.length - (i + 1), by omega, rfl, h.1, h.2⟩, fun x H' y => ?_⟩
    obtain ⟨e2, rx⟩ := hy x H' y
    subst e2
    rw [List.drop_eq_getElem_cons hlt] at q
    simp only [forLoop, hst, if_true] at q
    cases es : store is one xs[i] env with
    | none => rw [es] at q; exact q.elim
    | some env1 =>
      rw [es] at q
      refine tg_store es rx n fun sg1 n1 => ?_
      refine ⟨rho, st, env1, s, n1, ?_⟩
      revert q
      simp only
      cases execSs g.tab g.call F x' env1 st with
      | bad => exact fun q => q
      | exc c st2 => exact fun q => q
      | ok f st2 =>
        simp only [bind_ok]
        cases f with
        | next env2 => exact fun q sg2 H2 r2 k2 s2 n2 => ⟨hlt, r2, st2, env2, kk.trans k2, s2, n2, RQ.mono k2 q fun f st p => PostF.mono k2 p⟩
        | cont env2 => exact fun q sg2 H2 r2 k2 s2 n2 => ⟨hlt, r2, st2, env2, kk.trans k2, s2, n2, RQ.mono k2 q fun f st p => PostF.mono k2 p⟩
        | brk env2 => exact fun q => q
        | ret d => exact fun q => q
  · have e : i = xs.length := by omega
    subst e
    refine .inl ⟨h1, ?_⟩
    rw [List.drop_eq_nil_of_le (Nat.le_refl _)] at q
    simp only [forLoop, hst, if_true] at q
    exact (show PostF g rho H D (.next env) st from q) sg H rho (.refl _ _) s n
noncomputable def Es.len : Es → Nat
 | .nil => 0
 | .cons _ r => r.len + 1
theorem evalEs_len {tab : Nat → Ty → Option Bool} {call : Or} : ∀ {es : Es} {env : Env} {st st' : Sto} {ds : List DD.D}, evalEs tab call es env st = .ok ds st' → ds.length = es.len
 | .nil, env, st, st', ds, h => by simp only [evalEs] at h; cases h; rfl
 | .cons e r, env, st, st', ds, h => by
  simp only [evalEs] at h
  cases e1 : evalE tab call e env st with
  | bad => rw [e1] at h; cases h
  | exc c st1 => rw [e1] at h; cases h
  | ok d st1 =>
   rw [e1] at h
   simp only [bind_ok] at h
   cases e2 : evalEs tab call r env st1 with
   | bad => rw [e2] at h; cases h
   | exc c st2 => rw [e2] at h; cases h
   | ok t st2 =>
    rw [e2] at h
    simp only [bind_ok] at h
    cases h
    simp only [List.length_cons, evalEs_len e2, Es.len]
theorem stepL2 {β : Type} {e : Es} {env : Env} {sg : L2.St} {st : Sto} {rho : List Addr} {H : Hp} {k : List DD.D → Sto → Res β} {ok : β → Sto → Prop} {Q : List V → Hp → Prop} (s : g.Sto rho st H) (n : g.Env rho H env sg)
    (h : RQ g ((evalEs g.tab g.call e env st).bind k) ok rho H)
    (hk : ∀ d st1 v H1 rho1, d.length = e.len → g.Keep rho H rho1 H1 → g.Sto rho1 st1 H1 → g.Env rho1 H1 env sg → g.RepL rho1 H1 d v → RQ g (k d st1) ok rho1 H1 → Q v H1) : tEs g e sg H Q := by
  refine ⟨rho, st, env, s, n, ?_⟩
  revert h
  cases ee : evalEs g.tab g.call e env st with
  | ok d st1 => exact fun h v H1 r1 k1 s1 rp => hk d st1 v H1 r1 (evalEs_len ee) k1 s1 (n.mono k1) rp (RQ.mono k1 h fun _ _ x => x)
  | exc c st1 => exact fun h => h
  | bad => exact fun h => h
theorem rng1 {ds xs : List DD.D} {e : Expr} (h : rngOf ds = some xs) (hl : ds.length = 1) : ∃ j : Int, ds = [.int j] ∧ -(2 ^ 62) ≤ j ∧ j < 2 ^ 62 ∧ xs = rngL 0 j.toNat := by
 match ds, hl with
 | [d], _ =>
  cases d with
  | int j =>
   simp only [rngOf] at h
   split at h
   · rename_i z; cases h; exact ⟨j, rfl, z.1, z.2, rfl⟩
   · cases h
  | _ => simp [rngOf] at h
theorem s_forR {pos2 : Pos} {is : List Nat} {tgt e : Expr} {body : List Stmt} {x' : Ss} {e' : E} {p : Pos} (hp : PassesOwn (model X.prog X.w) X.A X.env X.xe) (hc : X.calm = true) (hg : Gl X "range") (hm : X.mg "range" = none) (ha : Sd g X e e') (ht : PG X tgt (tg g.K is true)) (hx : SdSs g X F body x')
    (he : starEach [e] X.env = [(false, eval e X.env)] := by rfl) (hs : ∀ x, foldedSetIterable (.Call (.Name "range" p) [e] [] pos) X.env x = pure x   := by intro _; rfl) : SdS g X F (.For tgt (.Call (.Name "range" p) [e] [] pos) body [] pos2) (.forR is (.cons e' .nil) x') := ps_imp (ps_for hp hc (pi_range1 hg hm (sdl_cons ha sdl_nil he) he) ht hx hs) fun D sg H q => by
  obtain ⟨rho, st, env, s, n, q⟩ := q
  simp only [execS] at q
  refine stepL2 s n q fun ds st1 vs H1 r1 hl k1 s1 n1 rps q1 => ?_
  split at q1
  · rename_i xs e1
    obtain ⟨j, rfl, j1, j2, rfl⟩ := rng1 (e := e) e1 hl
    obtain ⟨v, rfl, rv⟩ := repL1 rps
    refine ⟨j, by rw [rep_int.mp rv], j1, j2, ?_⟩
    refine for_any (J := Itr 0 j.toNat) (p := none) (fun rho st H _ _ _ => ⟨?_, fun i d hd => ?_⟩) s1 n1 (RQ.mono (.refl _ _) q1 fun f st p => PostF.mono k1 p)
    · show j.toNat ≤ _
      simp [rngL]
    · have hi : i < j.toNat := by
        have := (List.getElem?_eq_some_iff.mp hd).1
        simpa [rngL] using this
      refine ⟨hi, fun x H' y => ⟨y.1, ?_⟩⟩
      have hd' : d = .int (0 + (i : Nat)) := by
        have := (List.getElem?_eq_some_iff.mp hd).2
        simp [rngL] at this
        simp [← this]
      rw [hd', rep_int]
      exact y.2
  · exact q1.elim
theorem s_forL {is : List Nat} {one : Bool} {tgt e : Expr} {body : List Stmt} {x' : Ss} {e' : E} (hK : X.K = g.K) (hp : PassesOwn (model X.prog X.w) X.A X.env X.xe) (hc : X.calm = true) (ha : Sd g X e e') (ht : PG X tgt (tg g.K is one)) (hx : SdSs g X F body x')
    (hs : ∀ x, foldedSetIterable e X.env x = pure x := by intro _; rfl) : SdS g X F (.For tgt e body [] pos) (.forS is one false e' x') := ps_imp (ps_for hp hc (pi_list ha) ht hx hs) fun D sg H q => by
  obtain ⟨rho, st, env, s, n, q⟩ := q
  simp only [execS] at q
  refine step s n q fun d st1 v H1 r1 k1 s1 n1 rp q1 => ?_
  cases d with
  | loc m =>
    simp only [walkOf, Bool.false_eq_true, if_false] at q1
    cases el : lstOf st1 m with
    | none => rw [el] at q1; exact q1.elim
    | some ds =>
      rw [el] at q1
      simp only [Option.map_some] at q1
      obtain ⟨p, vs, hr, sq, rl⟩ := sto_seq s1 el
      obtain ⟨p2, hr2, rfl⟩ := rep_loc.mp rp
      rw [hr] at hr2; cases hr2
      refine ⟨p, rfl, ⟨vs, by rw [hK]; exact sq⟩, ?_⟩
      rw [hK]
      refine for_any (J := Itl g.K p) (p := some m) (fun rho st H kk s hst => ?_) s1 n1 (RQ.mono (.refl _ _) q1 fun f st p => PostF.mono k1 p)
      have hst : lstOf st m = some ds := of_decide_eq_true hst
      obtain ⟨p3, ws, hr3, sq3, rl3⟩ := sto_seq s hst
      rw [kk.at hr] at hr3; cases hr3
      refine ⟨⟨ws, sq3, by rw [← rl3.length]; exact Nat.le_refl _⟩, fun i d hd => ?_⟩
      obtain ⟨v, hv, rv⟩ := rl3.get hd
      refine ⟨⟨ws, v, sq3, hv⟩, fun x H' y => ⟨y.1, ?_⟩⟩
      have := y.2 ws sq3
      rw [hv] at this; cases this
      exact rv
  | _ => exact q1.elim
theorem s_forT {is : List Nat} {one : Bool} {tgt e : Expr} {body : List Stmt} {x' : Ss} {e' : E} (hK : X.K = g.K) (hp : PassesOwn (model X.prog X.w) X.A X.env X.xe) (hc : X.calm = true) (ha : Sd g X e e') (ht : PG X tgt (tg g.K is one)) (hx : SdSs g X F body x')
    (hs : ∀ x, foldedSetIterable e X.env x = pure x := by intro _; rfl) : SdS g X F (.For tgt e body [] pos) (.forS is one true e' x') := ps_imp (ps_for hp hc (pi_tup ha) ht hx hs) fun D sg H q => by
  obtain ⟨rho, st, env, s, n, q⟩ := q
  simp only [execS] at q
  refine step s n q fun d st1 v H1 r1 k1 s1 n1 rp q1 => ?_
  cases d with
  | tup ds =>
    simp only [walkOf, if_true] at q1
    obtain ⟨p, vs, rfl, sq, rl⟩ := rep_tup.mp rp
    refine ⟨p, rfl, ⟨vs, by rw [hK]; exact sq⟩, ?_⟩
    rw [hK]
    refine for_any (J := Itt g.K p) (p := none) (fun rho st H kk s hst => ?_) s1 n1 (RQ.mono (.refl _ _) q1 fun f st p => PostF.mono k1 p)
    have sq3 := kk.tup p vs sq
    have rl3 := rl.mono kk
    refine ⟨⟨vs, sq3, by rw [← rl3.length]; exact Nat.le_refl _⟩, fun i d hd => ?_⟩
    obtain ⟨v, hv, rv⟩ := rl3.get hd
    refine ⟨⟨vs, v, sq3, hv⟩, fun x H' y => ⟨y.1, ?_⟩⟩
    have := y.2 vs sq3
    rw [hv] at this; cases this
    exact rv
  | _ => simp [walkOf] at q1; exact q1.elim
theorem sd_append {o v : Expr} {o' v' : E} {apos cpos : Pos} (hK : X.K = g.K) (ho : Sd g X o o') (hv : Sd g X v v') (hbase : attributeBase o "append" X.env (eval o X.env) = eval o X.env := by rfl)
    (hfew : ((backTo cpos (starEach [v] X.env)).all (fun x => !x.1) && (backToKw cpos (keywordEach [] X.env)).all (fun x => x.1.isSome) && decide ([v].length + ([] : List Keyword).length + (if ([] : List Keyword).isEmpty then 0 else 1) < 30)) = true := by rfl)
    (hline : (apos.endLine == cpos.line) = true := by rfl) (hs : starEach [v] X.env = (false, eval v X.env) :: starEach [] X.env := by rfl) : Sd g X (.Call (.Attribute o "append" apos) [v] [] cpos) (.mt .append o' (.cons v' .nil)) :=
  pe_imp (pe_bm PySem.F.plainAttrs_list PySem.F.slot_list_append PySem.F.type_list_append mt_append ho (sdl_cons hv sdl_nil hs) hbase hfew hline hs rfl) fun sg H Q q => by
    obtain ⟨rho, st, env, s, n, q⟩ := q
    simp only [evalE] at q
    refine step s n q fun d st1 x H1 r1 k1 s1 n1 rp q1 => ?_
    split at q1
    · rename_i hl
      have hl : isLst st1 d = true := hl
      cases d with
      | loc m =>
        have hl : ∃ xs, st1[m]? = some (.lst xs) := by
          simp only [isLst] at hl
          split at hl
          · rename_i xs e; exact ⟨xs, e⟩
          · cases hl
        obtain ⟨xs, el⟩ := hl
        obtain ⟨p, vs, hr, hH, rl⟩ := sto_lst s1 el
        obtain ⟨p2, hr2, rfl⟩ := rep_loc.mp rp
        rw [hr] at hr2; cases hr2
        refine ⟨.inl ⟨rfl, vs, SqL.of hH⟩, ?_⟩
        refine stepL s1 n1 q1 fun ds st2 ws H2 r2 k2 s2 n2 rps q2 => ?_
        match ds, q2 with
        | [y], q2 =>
          obtain ⟨w, rfl, rw1⟩ := repL1 rps
          simp only [mtD] at q2
          split at q2
          · rename_i zs ez
            split at q2
            · rename_i hz
              obtain ⟨p3, us, hr3, hH3, rl3⟩ := sto_lst s2 ez
              rw [k2.at hr] at hr3; cases hr3
              have hrep : g.RepL r2 H2 (zs ++ [y]) (us ++ [w]) := rl3.append (by simp only [RepL]; exact ⟨w, [], rfl, rw1, rfl⟩)
              obtain ⟨k3, s3⟩ := s2.wrote (k2.at hr) ez hH3 hrep
              refine ⟨p, us, w, rfl, rfl, hH3, by rw [← rl3.length]; exact hz, ?_⟩
              exact (show Post g rho H Q .non _ from q2) _ _ r2 ((k1.trans k2).trans k3) s3 (rep_non.mpr rfl)
            · exact q2.elim
          · exact q2.elim
        | [], q2 => exact q2.elim
        | _ :: _ :: _, q2 => exact q2.elim
      | _ => cases hl
    · exact q1.elim
end DD
namespace DD
open PySem PySem.Spec L2
open PyProof.Rows hiding St
variable {g : G} {X : Cx} {a b c : Expr} {a' b' c' : E} {pos : Pos} {rest es : List Expr} {es' : Es} {F : Nat}
abbrev G.with (g : G) (E : XK) : G := { g with xk := E }
end DD
namespace DD
open PySem PySem.Spec L2
open PyProof.Rows hiding St
structure FunD (K : PySem.W.Frag) (x qual : Str) (st : Stmt) (f : Addr) (fd : FuncData) : Prop where
 ex : ∃ (oc : Value) (od : Option Addr) (dV kV doc pm : Value) (an : Option Addr) (cdv ct : Value) (osl : Array (Option Value)),
  fd = PySem.W.fnOf x qual (defArgs st) (defBody st) (defScope st) dV kV doc pm an cdv ct ∧ K.lookup f = some ⟨oc, od, .func fd, osl⟩ ∧ PySem.W.codeIn K cdv qual = true
 kp : PySem.W.keepIn K (.ref f) = true
theorem fund_mk {K : PySem.W.Frag} {x qual : Str} {st : Stmt} {f : Addr} {oc : Value} {od an : Option Addr} {osl : Array (Option Value)} {dV kV doc pm cdv ct : Value} (l : K.lookup f = some ⟨oc, od, .func (PySem.W.fnOf x qual (defArgs st) (defBody st) (defScope st) dV kV doc pm an cdv ct), osl⟩)
    (c : PySem.W.codeIn K cdv qual = true) (k : PySem.W.keepIn K (.ref f) = true) : FunD K x qual st f (PySem.W.fnOf x qual (defArgs st) (defBody st) (defScope st) dV kV doc pm an cdv ct) := ⟨⟨oc, od, dV, kV, doc, pm, an, cdv, ct, osl, rfl, l, c⟩, k⟩
section
variable {P : Program} {w : World} {K : PySem.W.Frag} {mg : Str → Option Value} {base : Heap} {cls : CW} {tab : Nat → Ty → Option Bool} {fns : List Fn} {FF : Nat}
abbrev cxD (P : Program) (w : World) (K : PySem.W.Frag) (mg : Str → Option Value) (base : Heap) (N : List Str) (qual : Str) (st : Stmt) (f : Addr) (cdv : Value) (A : Around) (outer : List PySem.Env) (s : Shared) (H : Hp) (E : XK) : Cx := cxOf (CXd P w) P w K mg base N qual (defScope st) f cdv A outer s H E
theorem env_start {rho : List Addr} {H : Hp} : ∀ {ds : List D} {vs : List V}, RepL K rho H ds vs → ∀ (i : Nat) (d : D), (ds.map some)[i]? = some (some d) → ∃ v, (vs.map some)[i]? = some (some v) ∧ Rep K rho H d v := fun {ds vs} r i d e => by
 rw [List.getElem?_map] at e
 cases z : ds[i]? with
 | none => rw [z] at e; cases e
 | some y =>
  rw [z] at e; cases e
  obtain ⟨v, h1, h2⟩ := r.get z
  exact ⟨v, by rw [List.getElem?_map, h1]; rfl, h2⟩
theorem fn_step {x qual : Str} {st : Stmt} {f : Addr} {fd : FuncData} {N ps : List Str} {m n fi : Nat} {body' : Ss} (F : FunD K x qual st f fd) (S : FnScope N ps (defScope st)) (hf : fns[fi]? = some ⟨ps.length, N.length, body'⟩)
    (hb : ∀ (cdv : Value) (A : Around) (outer : List PySem.Env) (s : Shared) (H : Hp) (E : XK), Room m (A.deeper (envOfC qual (defScope st) s.heap.objs.size f cdv)) → SdSs ⟨K, cls, tab, callD tab fns FF n, E⟩ (cxD P w K mg base N qual st f cdv A outer s H E) FF (defBody st) body') :
    FnOk P w K mg base (CXd P w) (m + 1) f fd ps (spD K cls ps.length (callD tab fns FF (n + 1) fi)) := by
  obtain ⟨oc, od, dV, kV, doc, pm, an, cdv, ct, osl, rfl, lk, hcd⟩ := F.ex
  refine fn_of lk hcd S (fun vs H Q E h => h.1) fun A outer s H vs Q E hr hsp => ?_
  obtain ⟨hl, rho, st1, ds, s1, rl, q⟩ := hsp
  refine ⟨_, hb cdv A outer s H E hr, ?_⟩
  have hdl := rl.length
  have hpn : ps.length ≤ N.length := by have := congrArg List.length S.pre; rw [List.length_take] at this; omega
  have e0 : callD tab fns FF (n + 1) fi ds st1 = fin (execSs tab (callD tab fns FF n) FF body' (ds.map some ++ List.replicate (N.length - ps.length) none) st1) := by
    show (match fns[fi]? with
      | some fn => if ds.length = fn.np ∧ fn.np ≤ fn.nl then fin (execSs tab (callD tab fns FF n) FF fn.body (ds.map some ++ List.replicate (fn.nl - fn.np) none) st1) else .bad
      | none => .bad) = _
    rw [hf]
    simp only
    rw [if_pos ⟨by omega, hpn⟩]
  rw [e0] at q
  refine ⟨rho, st1, ds.map some ++ List.replicate (N.length - ps.length) none, s1, ⟨?_, fun i d e => ?_⟩, ?_⟩
  · unfold L2.start
    simp [hdl, hl]
  · unfold L2.start
    by_cases hi : i < ds.length
    · rw [List.getElem?_append_left (by simpa using hi)] at e
      obtain ⟨v, h1, h2⟩ := env_start rl i d e
      exact ⟨v, by rw [List.getElem?_append_left (by simp; omega)]; exact h1, h2⟩
    · rw [List.getElem?_append_right (by simpa using hi), List.getElem?_replicate] at e
      split at e <;> cases e
  · revert q
    unfold fin
    cases execSs tab (callD tab fns FF n) FF body' (ds.map some ++ List.replicate (N.length - ps.length) none) st1 with
    | bad => exact fun q => q
    | exc c st2 => exact fun q => q
    | ok f st2 =>
      simp only [bind_ok]
      cases f with
      | next env2 => exact fun q sg H' rho' k s' n' => q _ H' rho' k s' (by simp [Rep])
      | ret d => exact fun q => q
      | brk env2 => exact fun q => q.elim
      | cont env2 => exact fun q => q.elim
theorem fn_zero {f : Addr} {fd : FuncData} {ps : List Str} {fi : Nat} : FnOk P w K mg base (CXd P w) 0 f fd ps (spD K cls ps.length (callD tab fns FF 0 fi)) := by
 refine ⟨fun vs H Q E h => h.1, fun A outer s H args us vs Q E _ _ _ _ h => ?_⟩
 obtain ⟨_, rho, st1, ds, s1, rl, q⟩ := h
 exact q.elim
theorem callD_len {n fi np nl : Nat} {body' : Ss} (hf : fns[fi]? = some ⟨np, nl, body'⟩) : ∀ ds st, ds.length ≠ np → callD tab fns FF n fi ds st = .bad := fun ds st h => by
 cases n with
 | zero => rfl
 | succ n =>
  show (match fns[fi]? with
   | some fn => if ds.length = fn.np ∧ fn.np ≤ fn.nl then fin (execSs tab (callD tab fns FF n) FF fn.body (ds.map some ++ List.replicate (fn.nl - fn.np) none) st) else .bad
   | none => .bad) = _
  rw [hf]
  simp only
  rw [if_neg (fun z => h z.1)]
end
end DD
namespace DD
open PySem PySem.Spec L2
variable {g : G} {X : Cx} {a b c : Expr} {a' b' c' : E} {pos : Pos} {rest es : List Expr} {es' : Es} {F : Nat}
noncomputable def rCm (g : G) (c : Cm) : R2 := fun x y H Q => ∃ rho st a b, g.Sto rho st H ∧ g.Rep rho H a x ∧ g.Rep rho H b y ∧ RQ g (cmD c a b st) (Post g rho H Q) rho H
theorem is_bool_of {rho : List Addr} {H : Hp} {d : D} {x : V} {v : Value} {c : Bool} {A : Around} {E : Value → Shared → Prop} {s : Shared} {M : Model} {Q : Value → Shared → Prop} (r : g.Rep rho H d x) (rx : RelV x v) (h : Q (.bool (decide (d = D.bl c))) s) : wpAny M A (compareOp .Is v (.bool c)) Q E s := by
 cases d with
 | non => cases rep_non.mp r; cases rx; exact wpAny_pure h
 | bl z => cases rep_bl.mp r; cases rx; cases z <;> cases c <;> exact wpAny_pure h
 | int i => cases rep_int.mp r; obtain ⟨t, rfl⟩ := rx; exact wpAny_pure h
 | str z => cases rep_str.mp r; obtain ⟨t, rfl⟩ := rx; exact wpAny_pure h
 | tup ds => obtain ⟨q, vs, rfl, _⟩ := rep_tup.mp r; cases rx; exact wpAny_pure h
 | loc n => obtain ⟨q, _, rfl⟩ := rep_loc.mp r; cases rx; exact wpAny_pure h
theorem rep_isN {rho : List Addr} {H : Hp} {d : D} {v : V} (r : g.Rep rho H d v) : decide (v = V.non) = decide (d = D.non) := by
 cases d with
 | non => cases rep_non.mp r; rfl
 | bl b => cases rep_bl.mp r; simp
 | int b => cases rep_int.mp r; simp
 | str b => cases rep_str.mp r; simp
 | tup ds => obtain ⟨_, _, rfl, _⟩ := rep_tup.mp r; simp
 | loc n => obtain ⟨_, _, rfl⟩ := rep_loc.mp r; simp
theorem op_isC : OpR X (compareOp .Is) (rCm g .isN) := by
 rintro pins s sg H x y v u Q I rx ry ⟨rho, st, a, b, S, r1, r2, q⟩
 simp only [cmD] at q
 cases b with
 | non => exact op_isN pins s sg H x y v u Q I rx ry ⟨rep_non.mp r2, by rw [rep_isN r1]; exact (show Post g rho H Q (.bl _) st from q) _ H rho (.refl _ _) S (rep_bl.mpr rfl)⟩
 | bl c =>
  cases rep_bl.mp r2
  cases ry
  exact is_bool_of r1 rx ⟨.bl _, H, I, rfl, (show Post g rho H Q (.bl _) st from q) _ H rho (.refl _ _) S (rep_bl.mpr rfl)⟩
 | _ => exact q.elim
theorem im_cm {k : Cm} {sg : L2.St} {H : Hp} {Q : VK} (q : tE g (.cm k a' b') sg H Q) : tOp (rCm g k) (tE g a') (tE g b') sg H Q := by
 obtain ⟨rho, st, env, s, n, q⟩ := q
 simp only [evalE] at q
 refine two (k := cmD k) ?_ s n q
 intro x y u v st rho H Q s rx ry q
 exact ⟨rho, st, x, y, s, rx, ry, q⟩
theorem sd_isN (hK : X.K = g.K) (hw : g.cls.w = X.w) (hu : X.A.units + 64 < cLine) (ha : Sd g X a a') (hb : Sd g X b b') : Sd g X (.Compare a [.Is] [b] pos) (.cm .isN a' b') := pe_imp (pe_cmpR (op_isC) ha hb (nomark _)) fun sg H Q q => im_cm q
theorem sdt_isN (hK : X.K = g.K) (hw : g.cls.w = X.w) (hu : X.A.units + 64 < cLine) (ha : Sd g X a a') (hb : Sd g X b b') : SdT g X (.Compare a [.Is] [b] pos) (.cm .isN a' b') := pt_imp (pt_cmpR (op_isC) ha hb (nomark _)) fun sg H Q q => im_cm (cmT q)
end DD
namespace DD
open PySem PySem.Spec L2
variable {g : G} {X : Cx} {a b c : Expr} {a' b' c' : E} {pos : Pos} {rest es : List Expr} {es' : Es} {F : Nat}
theorem RepL.drop {rho : List Addr} {H : Hp} : ∀ {ds : List D} {vs : List V} (n : Nat), g.RepL rho H ds vs → g.RepL rho H (ds.drop n) (vs.drop n)
 | ds, vs, 0, r => by simpa using r
 | [], vs, n + 1, r => by simp only [DD.RepL] at r; subst r; simp [DD.RepL]
 | d :: t, vs, n + 1, r => by
  simp only [DD.RepL] at r
  obtain ⟨v, w, rfl, _, r2⟩ := r
  simpa using RepL.drop n r2
theorem RepL.take {rho : List Addr} {H : Hp} : ∀ {ds : List D} {vs : List V} (n : Nat), g.RepL rho H ds vs → g.RepL rho H (ds.take n) (vs.take n)
 | ds, vs, 0, r => by simp [DD.RepL]
 | [], vs, n + 1, r => by simp only [DD.RepL] at r; subst r; simp [DD.RepL]
 | d :: t, vs, n + 1, r => by
  simp only [DD.RepL] at r
  obtain ⟨v, w, rfl, r1, r2⟩ := r
  simp only [List.take_succ_cons, DD.RepL]
  exact ⟨v, _, rfl, r1, RepL.take n r2⟩
theorem RepL.cut {rho : List Addr} {H : Hp} {ds : List D} {vs : List V} (r : g.RepL rho H ds vs) (lo hi : Option Int) : g.RepL rho H (cutD ds lo hi) (cutV vs lo hi) := by
 unfold cutD cutV
 rw [r.length]
 exact RepL.take _ (RepL.drop _ r)
def rSlTw (K : PySem.W.Frag) : V → Option Int → Option Int → Hp → VK → Prop := fun x lo hi H Q => ∃ a xs, x = .ref a ∧ SqT K H a xs ∧ HT.sIx xs.length 0 lo = 0 ∧ HT.sIx xs.length xs.length hi = xs.length ∧ Q x H
section
open PyProof.Rows hiding St RelV
open PySem.SeqAt
open PySem.MeetsSeq PySem.MeetsSeq2 PySem.MeetsSeq3
theorem tuple_whole {prog : Program} {w : World} {A : Around} {E : Value → Shared → Prop} {s : Shared} {t sl : Addr} {items : Array Value} {vl vu : Value} {lo hi : Option Int} {Q : Value → Shared → Prop} (ht : IsTup s.heap t items) (hs : s.heap.IsSliceOf sl vl vu .none) (pl : IsPart vl lo) (pu : IsPart vu hi)
    (h1 : HT.sIx items.size 0 lo = 0) (h2 : HT.sIx items.size items.size hi = items.size) (h : Q (.ref t) s) : wpAny (model prog w) A (getItem (.ref t) (.ref sl)) Q E s := by
  obtain ⟨os, hos, hcs, hds⟩ := id hs
  have hTs : s.TypeIs (.ref sl) "slice" := ⟨os, hos, hcs⟩
  unfold getItem
  try with_reducible refine wpAny_holding ?_
  first | refine wpAny_bind (wpAny_pure ?_) | skip
  refine wpAny_bind (wpAny_sequenceKey ht.typeIs (by decide) ?_)
  refine wpAny_bind (wpAny_callSpecial?_slot (name := Str.ofString "__getitem__") ht.typeIs PyProof.Rows.slot_tuple_getitem
    (wpAny_call_entry PyProof.Rows.slot_tuple_getitem ht.typeIs entry_tuple_getitem ?_ (args_tuple_getitem _ _)))
  show wpAny _ _ (Builtin.Tuple.tupleItemsOf (.ref t) >>= _) _ _ s
  refine wpAny_bind (tupleItemsOf_ ht ?_)
  refine wpAny_bind (wpAny_typeOf hTs ?_)
  rw [if_pos (by decide)]
  refine wpAny_bind (HT.sliceApplied_gen hs pl pu ?_)
  show wpAny _ _ (if (((HT.sIx items.size 0 lo : Nat) : Int) == 0 && (1 : Int) == 1 && (HT.sIx items.size items.size hi - HT.sIx items.size 0 lo) == items.size) = true then _ else _) _ _ s
  rw [if_pos (by rw [h1, h2]; simp)]
  refine wpAny_bind (m := Builtin.Tuple.tupleIsExact (.ref t)) ?_
  unfold Builtin.Tuple.tupleIsExact
  refine wpAny_bind (wpAny_typeOf ht.typeIs (wpAny_pure ?_))
  rw [if_pos (by decide)]
  exact wpAny_bind (wpAny_rule (wpAny_pure ⟨_, rfl, wpAny_pure h⟩))
end
theorem sl_tupW : SlR X (rSlTw X.K) := by
 intro pins s sg H x v vl vu lo hi sl Q I rx hs pl pu h
 obtain ⟨a, xs, rfl, hx, h1, h2, q⟩ := h
 cases rx
 obtain ⟨its, r, ht, hz⟩ := I.tuple hx
 have hlen : its.toArray.size = xs.length := by rw [List.size_toArray]; exact r.length.symm
 exact ⟨"tuple", _, PyProof.Rows.slot_tuple_getitem.lookup, ht.typeIs, tuple_whole ht hs pl pu (by rw [hlen]; exact h1) (by rw [hlen]; exact h2) ⟨.ref a, H, I, rfl, q⟩⟩
def rSlL (K : PySem.W.Frag) : V → Option Int → Option Int → Hp → VK → Prop := fun x lo hi H Q => ∃ a xs, x = .ref a ∧ SqL K H a xs ∧ ∀ p, H p = none → Q (.ref p) (upd H p (.lst (cutV xs lo hi)))
theorem pick_cut (its : List Value) (lo hi : Option Int) : slicePick its.toArray lo hi none = ((its.drop (HT.sIx its.length 0 lo)).take (HT.sIx its.length its.length hi - HT.sIx its.length 0 lo)).toArray := by
 have c : ∀ (n d : Nat) (o : Option Int), o.elim d (clipAt n) = HT.sIx n d o := fun n d o => by
  cases o with
  | none => rfl
  | some v =>
   show clipAt n v = if v < 0 then (v + (n : Int)).toNat else min v.toNat n
   unfold clipAt
   split <;> omega
 rw [slicePick_plain, c, c]
 simp
theorem sl_list : SlR X (rSlL X.K) := by
 intro pins s sg H x v vl vu lo hi sl Q I rx hs pl pu h
 obtain ⟨a, xs, rfl, hx, q⟩ := h
 cases rx
 obtain ⟨its, r, hl, hz⟩ := I.list hx
 have hlen := r.length
 refine ⟨"list", _, slot_list_getitem.lookup, hl.isList.typeIs, ?_⟩
 refine wpAny_getItem_list_slice hl.isList hs pl pu .none (by simp) ?_ (by rw [List.size_toArray, ← hlen]; exact hz)
 rw [pick_cut]
 refine ⟨.ref s.heap.objs.size, _, I.lnew (t' := s.toks) (ys := cutV xs lo hi) ?_ (Nat.le_trans (cutV_length xs lo hi) hz), rfl, q _ (I.hok.fresh (Nat.le_refl _))⟩
 unfold cutV
 rw [hlen]
 exact (r.drop _).take _
end DD
namespace DD
open PySem PySem.Spec L2
variable {g : G} {X : Cx} {a b c : Expr} {a' b' c' : E} {pos p2 : Pos} {rest es : List Expr} {es' : Es} {F : Nat}
theorem bind_assoc {α β γ : Type} (r : Res α) (f : α → Sto → Res β) (k : β → Sto → Res γ) : (r.bind f).bind k = r.bind fun a st => (f a st).bind k := by cases r <;> rfl
def rSl (K : PySem.W.Frag) : V → Option Int → Option Int → Hp → VK → Prop := fun x lo hi H Q => rSlL K x lo hi H Q ∨ rSlT K x lo hi H Q ∨ rSlTw K x lo hi H Q
theorem sl_any : SlR X (rSl X.K) := sl_list.or (sl_tup.or sl_tupW)
theorem sl_fin (hK : X.K = g.K) {k : Nat} {x : D} {v : V} {ds : List D} {lo hi : Option Int} {st : Sto} {rho : List Addr} {H : Hp} {Q : VK} (hp : slParts k ds = some (lo, hi)) (s : g.Sto rho st H) (rx : g.Rep rho H x v)
    (q : RQ g (slD k x ds st) (Post g rho H Q) rho H) : rSl X.K v lo hi H Q := by
  unfold slD at q
  rw [hp] at q
  simp only at q
  cases x with
  | tup xs =>
    have q : Post g rho H Q (.tup (cutD xs lo hi)) st := q
    obtain ⟨p, vs, rfl, sq, rl⟩ := rep_tup.mp rx
    have sq' : SqT X.K H p vs := by rw [hK]; exact sq
    by_cases w : HT.sIx vs.length 0 lo = 0 ∧ HT.sIx vs.length vs.length hi = vs.length
    · refine .inr (.inr ⟨p, vs, rfl, sq', w.1, w.2, q _ H rho (.refl _ _) s (rep_tup.mpr ⟨p, vs, rfl, sq, ?_⟩)⟩)
      have e : cutD xs lo hi = xs := by
        unfold cutD
        rw [rl.length, w.1, w.2, List.drop_zero, Nat.sub_zero, ← rl.length, List.take_length]
      rw [e]; exact rl
    · refine .inr (.inl ⟨p, vs, rfl, sq', w, fun l hl => ?_⟩)
      have e := same_upd hl (.tup (cutV vs lo hi))
      exact q (.ref l) _ rho (Same.keep e rho) (s.same e) (rep_tup.mpr ⟨l, _, rfl, SqT.of upd_same, (RepL.cut rl lo hi).mono (Same.keep e rho)⟩)
  | loc n =>
    simp only at q
    split at q
    · rename_i xs e
      obtain ⟨p, vs, h1, sq, rl⟩ := sto_seq s e
      obtain ⟨p2, h2, rfl⟩ := rep_loc.mp rx
      rw [h1] at h2; cases h2
      exact .inl ⟨p, vs, rfl, by rw [hK]; exact sq, fun l hl => new_lst s (RepL.cut rl lo hi) hl q⟩
    · exact q.elim
  | _ => exact q.elim
theorem sd_sl1 (hK : X.K = g.K) (ha : Sd g X a a') (hb : Sd g X b b') : Sd g X (.Subscript a (.Slice (some b) none none p2) pos) (.sl 1 a' (.cons b' .nil)) := pe_imp (pe_slice sl_any ha (po_some hb) po_none) fun sg H Q q => by
 obtain ⟨rho, st, env, s, n, q⟩ := q
 simp only [evalE, evalIs, bind_ok, bind_assoc] at q
 refine step s n q fun x st1 v H1 r1 k1 s1 n1 rx q1 => ?_
 refine step s1 n1 q1 fun y st2 u H2 r2 k2 s2 n2 ry q2 => ?_
 cases y with
 | int i => exact ⟨i, rep_int.mp ry, sl_fin hK (k := 1) (ds := [.int i]) rfl s2 (rx.mono k2) (RQ.mono (.refl _ _) q2 fun _ _ p => p.mono (k1.trans k2))⟩
 | _ => exact q2.elim
theorem sd_sl2 (hK : X.K = g.K) (ha : Sd g X a a') (hb : Sd g X b b') : Sd g X (.Subscript a (.Slice none (some b) none p2) pos) (.sl 2 a' (.cons b' .nil)) := pe_imp (pe_slice sl_any ha po_none (po_some hb)) fun sg H Q q => by
 obtain ⟨rho, st, env, s, n, q⟩ := q
 simp only [evalE, evalIs, bind_ok, bind_assoc] at q
 refine step s n q fun x st1 v H1 r1 k1 s1 n1 rx q1 => ?_
 refine step s1 n1 q1 fun y st2 u H2 r2 k2 s2 n2 ry q2 => ?_
 cases y with
 | int i => exact ⟨i, rep_int.mp ry, sl_fin hK (k := 2) (ds := [.int i]) rfl s2 (rx.mono k2) (RQ.mono (.refl _ _) q2 fun _ _ p => p.mono (k1.trans k2))⟩
 | _ => exact q2.elim
theorem sd_sl3 (hK : X.K = g.K) (ha : Sd g X a a') (hb : Sd g X b b') (hc : Sd g X c c') : Sd g X (.Subscript a (.Slice (some b) (some c) none p2) pos) (.sl 3 a' (.cons b' (.cons c' .nil))) := pe_imp (pe_slice sl_any ha (po_some hb) (po_some hc)) fun sg H Q q => by
 obtain ⟨rho, st, env, s, n, q⟩ := q
 simp only [evalE, evalIs, bind_ok, bind_assoc] at q
 refine step s n q fun x st1 v H1 r1 k1 s1 n1 rx q1 => ?_
 refine step s1 n1 q1 fun y st2 u H2 r2 k2 s2 n2 ry q2 => ?_
 cases y with
 | int i =>
  simp only [bind_assoc] at q2
  refine ⟨i, rep_int.mp ry, step s2 n2 q2 fun z st3 w H3 r3 k3 s3 n3 rz q3 => ?_⟩
  cases z with
  | int j => exact ⟨j, rep_int.mp rz, sl_fin hK (k := 3) (ds := [.int i, .int j]) rfl s3 ((rx.mono k2).mono k3) (RQ.mono (.refl _ _) q3 fun _ _ p => p.mono ((k1.trans k2).trans k3))⟩
  | _ => exact q3.elim
 | _ => exact q2.elim
theorem sto_ins {rho : List Addr} {st : Sto} {H : Hp} {n k : Nat} {fs : List (Str × D)} (s : g.Sto rho st H) (h : st[n]? = some (.ins k fs)) : ∃ p dx ws, rho[n]? = some p ∧ H p = some (.ins (g.cls k) dx ws) ∧ ws.length = fs.length ∧ FsRep g.K rho H fs ws := by
 have hl : n < rho.length := by rw [s.len]; exact (List.getElem?_eq_some_iff.mp h).1
 obtain ⟨dx, ws, h1, h2, h3⟩ := s.cells n rho[n] _ (List.getElem?_eq_getElem hl) h
 exact ⟨_, dx, ws, List.getElem?_eq_getElem hl, h1, h2, h3⟩
theorem fs_look {rho : List Addr} {H : Hp} {fs : List (Str × D)} {ws : List (Str × V)} {f : Str} {d : D} (r : FsRep g.K rho H fs ws) (h : fs.lookup f = some d) : ∃ v, ws.lookup f = some v ∧ g.Rep rho H d v := by
 have q := r f
 rw [h] at q
 cases e : ws.lookup f with
 | none => rw [e] at q; exact q.elim
 | some v => rw [e] at q; exact ⟨v, rfl, q⟩
theorem fs_none {rho : List Addr} {H : Hp} {fs : List (Str × D)} {ws : List (Str × V)} {f : Str} (r : FsRep g.K rho H fs ws) (h : fs.lookup f = none) : ws.lookup f = none := by
 have q := r f
 rw [h] at q
 cases e : ws.lookup f with
 | none => rfl
 | some v => rw [e] at q; exact q.elim
theorem sd_fld {f : Str} {k : Nat} (hcl : Cls X.K (g.cls k)) (hna : NoAttr X.K (g.cls k) f) (ha : Sd g X a a') (hb : attributeBase a f X.env (eval a X.env) = eval a X.env := by rfl) : Sd g X (.Attribute a f pos) (.fld k a' f) := pe_imp (pe_fld ha hb) fun sg H Q q => by
 obtain ⟨rho, st, env, s, n, q⟩ := q
 simp only [evalE] at q
 refine step s n q fun x st1 v H1 r1 k1 s1 n1 rx q1 => ?_
 cases x with
 | loc m =>
  simp only at q1
  split at q1
  · rename_i k' fs e
    split at q1
    · rename_i d ed
      split at q1
      · rename_i hk
        subst hk
        obtain ⟨p, dx, ws, h1, h2, _, h3⟩ := sto_ins s1 e
        obtain ⟨p2, h4, rfl⟩ := rep_loc.mp rx
        rw [h1] at h4; cases h4
        obtain ⟨w, e1, rw1⟩ := fs_look h3 ed
        exact ⟨p, g.cls k', dx, ws, w, rfl, h2, hcl, hna, e1, (show Post g rho H Q d st1 from q1) _ H1 r1 k1 s1 rw1⟩
      · exact q1.elim
    · exact q1.elim
  · exact q1.elim
 | _ => exact q1.elim
theorem putFD_look (f h : Str) (v : D) : ∀ fs : List (Str × D), (putFD f v fs).lookup h = if h = f then some v else fs.lookup h
 | [] => by
  by_cases e : h = f
  · subst e; simp [putFD]
  · simp [putFD, List.lookup, e]; simp [beq_eq_false_iff_ne.mpr e]
 | (k, x) :: r => by
  unfold putFD
  by_cases ek : k = f
  · subst ek
    rw [if_pos rfl]
    by_cases e : h = k
    · subst e; simp
    · simp [List.lookup_cons, beq_eq_false_iff_ne.mpr e, e]
  · rw [if_neg ek, List.lookup_cons, List.lookup_cons, putFD_look f h v r]
    by_cases e : h = k
    · subst e; simp [ek]
    · simp [beq_eq_false_iff_ne.mpr e]
theorem putF_len (f : Str) (v : V) (d : D) : ∀ {ws : List (Str × V)} {fs : List (Str × D)} {rho : List Addr} {H : Hp}, ws.length = fs.length → (ws.lookup f = none ↔ fs.lookup f = none) → (putF f v ws).length = (putFD f d fs).length := by
 have l1 : ∀ ws : List (Str × V), (putF f v ws).length = if ws.lookup f = none then ws.length + 1 else ws.length := by
  intro ws
  induction ws with
  | nil => simp [putF]
  | cons p r ih =>
   obtain ⟨k, x⟩ := p
   unfold putF
   by_cases ek : k = f
   · subst ek; simp
   · have : (f == k) = false := beq_eq_false_iff_ne.mpr (Ne.symm ek)
     rw [if_neg ek, List.length_cons, ih, List.lookup_cons, this]
     split <;> simp_all
 have l2 : ∀ ws : List (Str × D), (putFD f d ws).length = if ws.lookup f = none then ws.length + 1 else ws.length := by
  intro ws
  induction ws with
  | nil => simp [putFD]
  | cons p r ih =>
   obtain ⟨k, x⟩ := p
   unfold putFD
   by_cases ek : k = f
   · subst ek; simp
   · have : (f == k) = false := beq_eq_false_iff_ne.mpr (Ne.symm ek)
     rw [if_neg ek, List.length_cons, ih, List.lookup_cons, this]
     split <;> simp_all
 intro ws fs rho H hl hi
 rw [l1, l2, hl]
 by_cases e : fs.lookup f = none
 · rw [if_pos e, if_pos (hi.mpr e)]
 · rw [if_neg e, if_neg (fun z => e (hi.mp z))]
theorem fs_put {rho : List Addr} {H : Hp} {fs : List (Str × D)} {ws : List (Str × V)} {f : Str} {d : D} {v : V} (r : FsRep g.K rho H fs ws) (rv : g.Rep rho H d v) : FsRep g.K rho H (putFD f d fs) (putF f v ws) := fun h => by
 rw [putFD_look, lookup_putF]
 by_cases e : h = f
 · rw [if_pos e, if_pos e]; exact rv
 · rw [if_neg e, if_neg e]; exact r h
theorem s_setf {o : Expr} {o' : E} {f : Str} {k : Nat} {pt : Pos} (hcl : Cls X.K (g.cls k)) (hna : NoAttr X.K (g.cls k) f) (ho : Sd g X o o') (ha : Sd g X a a') (hs : swapsWith a (some (.Attribute o f pt)) pos.line X.env = pure false := by rfl) : SdS g X F (.Assign [.Attribute o f pt] a pos) (.setf k o' f a') := ps_imp (ps_fld ho ha hs) fun D sg H q => by
 obtain ⟨rho, st, env, s, n, q⟩ := q
 simp only [execS] at q
 refine step s n q fun y st1 v H1 r1 k1 s1 n1 ry q1 => ?_
 refine step s1 n1 q1 fun x st2 u H2 r2 k2 s2 n2 rx q2 => ?_
 cases x with
 | loc m =>
  simp only at q2
  split at q2
  · rename_i k' fs e
    split at q2
    · rename_i hk
      obtain ⟨hl9, rfl⟩ := hk
      obtain ⟨p, dx, ws, h1, h2, hlen, h3⟩ := sto_ins s2 e
      obtain ⟨p2, h4, rfl⟩ := rep_loc.mp rx
      rw [h1] at h4; cases h4
      refine ⟨p, g.cls k', dx, ws, rfl, h2, hcl, hna, by omega, ?_⟩
      have rv := ry.mono k2
      have hiff : ws.lookup f = none ↔ fs.lookup f = none := by
       have z := h3 f
       cases e1 : fs.lookup f <;> cases e2 : ws.lookup f <;> rw [e1, e2] at z <;> first | exact z.elim | simp
      obtain ⟨k3, s3⟩ := s2.wroteC (o := .ins (g.cls k') dx (putF f v ws)) (c1 := .ins k' (putFD f y fs)) h1 e rfl h2 ⟨fun _ => nofun, fun _ _ => nofun⟩ fun H3 eH kk => ⟨dx, _, eH, putF_len (rho := r2) (H := H2) f v y hlen hiff, (fs_put h3 rv).mono kk⟩
      exact (show PostF g rho H D (.next env) _ from q2) _ _ r2 ((k1.trans k2).trans k3) s3 (n2.mono k3)
    · exact q2.elim
  · exact q2.elim
 | _ => exact q2.elim
end DD
namespace DD
open PySem PySem.Spec L2
variable {g : G} {X : Cx} {a b c : Expr} {a' b' c' : E} {pos apos : Pos} {rest es : List Expr} {es' : Es} {F : Nat}
theorem sp_of {np f : Nat} {ds : List D} {vs : List V} {st : Sto} {rho : List Addr} {H : Hp} {Q : VK} (hl : ∀ ds st, ds.length ≠ np → g.call f ds st = .bad) (s : g.Sto rho st H) (r : g.RepL rho H ds vs) (q : RQ g (g.call f ds st) (Post g rho H Q) rho H) : spD g.K g.cls np (g.call f) vs H Q g.xk := by
 have hlen : ds.length = np := Decidable.byContradiction fun z => by rw [hl _ _ z] at q; exact q
 refine ⟨by rw [← r.length]; exact hlen, rho, st, ds, s, r, ?_⟩
 revert q
 cases g.call f ds st with
 | ok d st' => exact fun q => q
 | exc c st' => exact fun q => q
 | bad => exact fun q => q
theorem meth_in {c f : Nat} {m : Str} {fa : Addr} {o' : E} {np : Nat} {sg : L2.St} {H : Hp} {Q : VK} {t : TA} (hl : ∀ ds st, ds.length ≠ np → g.call f ds st = .bad)
    (ht : ∀ {rho st env H K}, g.Sto rho st H → g.Env rho H env sg → RQ g ((evalEs g.tab g.call es' env st).bind K) (Post g rho H Q) rho H → True) (q : tE g (.meth c f m o' es') sg H Q) :
    (tE g o' sg H fun x H1 => ∃ p dx ws, x = .ref p ∧ H1 p = some (.ins (g.cls c) dx ws) ∧ ws.lookup m = none ∧ tEs g es' sg H1 fun vs H2 => spD g.K g.cls np (g.call f) (x :: (vs ++ [])) H2 Q g.xk) := by
  obtain ⟨rho, st, env, s, n, q⟩ := q
  simp only [evalE] at q
  refine step s n q fun x st1 v H1 r1 k1 s1 n1 rx q1 => ?_
  cases x with
  | loc j =>
    simp only at q1
    split at q1
    · rename_i c' fs e
      split at q1
      · rename_i hc
        obtain ⟨rfl, hn⟩ := hc
        obtain ⟨p, dx, ws, h1, h2, _, h3⟩ := sto_ins s1 e
        have rx' := rx
        obtain ⟨p2, h4, rfl⟩ := rep_loc.mp rx
        rw [h1] at h4; cases h4
        refine ⟨p, dx, ws, rfl, h2, fs_none h3 hn, stepL s1 n1 q1 fun ds st2 vs H2 r2 k2 s2 n2 rps q2 => ?_⟩
        rw [List.append_nil]
        exact sp_of hl s2 (by simp only [RepL]; exact ⟨_, _, rfl, rx'.mono k2, rps⟩) (RQ.mono (.refl _ _) q2 fun _ _ p => p.mono (k1.trans k2))
      · exact q1.elim
    · exact q1.elim
  | _ => exact q1.elim
theorem sd_meth {cc k f : Nat} {m : Str} {fa : Addr} {fd : FuncData} {ps : List Str} {o e : Expr} {o' : E} {np : Nat} {pl : Sem Bool} (hcl : Cls X.K (g.cls cc)) (hm : Meth X.K (g.cls cc) m fa)
    (Fn : FnOk X.prog X.w X.K X.mg X.base (CXd X.prog X.w) k fa fd ps (spD g.K g.cls np (g.call f))) (hr : Room k X.A) (hb : Binds X.K fd ps []) (hx : Passes (CXd X.prog X.w) X g.xk) (hl : ∀ ds st, ds.length ≠ np → g.call f ds st = .bad)
    (ho : Sd g X o o') (ha : SdL g X (e :: es) es') (hst : starEach (e :: es) X.env = (false, eval e X.env) :: starEach es X.env := by rfl) (hpl : (backTo pos (starEach es X.env)).any (·.1) = false := by rfl)
    (ht : eval (.Call (.Attribute o m apos) (e :: es) [] pos) X.env = (do
      let ov ← eval o X.env
      standAt apos.atName
      let (f, first) ← holding [ov] (getMethod ov m pl)
      callWith pos f first (backTo pos (starEach (e :: es) X.env)) (backToKw pos (keywordEach [] X.env))) := by rfl) :
    Sd g X (.Call (.Attribute o m apos) (e :: es) [] pos) (.meth cc f m o' es') :=
  pe_imp (pe_meth (dvs := []) (ds := []) ho hcl hm Fn hr hb .nil hx ha hst hpl ht) fun sg H Q q => meth_in (fa := fa) (t := fun _ _ _ => True) hl (fun _ _ _ => trivial) q
theorem make_in {cc f : Nat} {np : Nat} {ds : List D} {vs : List V} {st : Sto} {rho : List Addr} {H : Hp} {Q : VK} (hl : ∀ ds st, ds.length ≠ np → g.call f ds st = .bad) (s : g.Sto rho st H) (r : g.RepL rho H ds vs)
    (q : RQ g ((g.call f (.loc st.length :: ds) (st ++ [.ins cc []])).bind fun r st' => match r with | .non => .ok (.loc st.length) st' | _ => .bad) (Post g rho H Q) rho H) :
    ∀ x dx, H x = none → H dx = none → dx ≠ x → spD g.K g.cls np (g.call f) (.ref x :: (vs ++ [])) (upd (upd H dx (.own x)) x (.ins (g.cls cc) dx [])) (fun v H2 => v = .non ∧ Q (.ref x) H2) g.xk := by
  intro x dx hx hdx hne
  have e1 := same_upd hdx (.own x)
  have s1 := s.same e1
  have hx1 : upd H dx (.own x) x = none := by rw [upd_ne (Ne.symm hne)]; exact hx
  obtain ⟨k2, s2⟩ := s1.laid hx1 (o := .ins (g.cls cc) dx []) (c := .ins cc []) ⟨dx, [], upd_same, rfl, fun f => trivial⟩
  have kk := (Same.keep e1 rho).trans k2
  rw [List.append_nil]
  refine sp_of hl s2 (ds := .loc st.length :: ds) (by simp only [RepL]; exact ⟨_, _, rfl, rep_loc.mpr ⟨x, by rw [← s.len]; simp, rfl⟩, r.mono kk⟩) ?_
  revert q
  cases g.call f (.loc st.length :: ds) (st ++ [.ins cc []]) with
  | bad => exact fun q => q
  | exc c st' => exact fun q H' rho' k s' => q H' rho' (kk.trans k) s'
  | ok d st' =>
    simp only [bind_ok]
    cases d with
    | non =>
      intro q v H' rho' k s' rv
      refine ⟨rep_non.mp rv, (show Post g rho H Q (.loc st.length) st' from q) _ H' rho' (kk.trans k) s' (rep_loc.mpr ⟨x, k.at ?_, rfl⟩)⟩
      rw [← s.len]; simp
    | _ => exact fun q => q.elim
theorem sd_mk0 {cc k f : Nat} {x : Str} {fa : Addr} {fd : FuncData} {ps : List Str} {np : Nat} {p : Pos} (M : Mk X.K (g.cls cc) fa) (Fn : FnOk X.prog X.w X.K X.mg X.base (CXd X.prog X.w) k fa fd ps (spD g.K g.cls np (g.call f))) (hr : Room (k + 1) X.A) (hg : Gl X x) (hm : X.mg x = some (.ref (g.cls cc)))
    (hb : Binds X.K fd ps []) (hx : Passes (CXd X.prog X.w) X g.xk) (hl : ∀ ds st, ds.length ≠ np → g.call f ds st = .bad) (hdb : (x == ("__debug__" : Str)) = false := by decide) :
    Sd g X (.Call (.Name x p) [] [] pos) (.mk cc f .nil) := pe_imp (pe_make0 (dvs := []) (ds := []) M Fn hr hg hm hb .nil hx hdb) fun sg H Q q => by
  obtain ⟨rho, st, env, s, n, q⟩ := q
  simp only [evalE, evalEs, bind_ok] at q
  exact make_in (vs := []) hl s (by simp [RepL]) q
end DD
namespace DD
open PySem PySem.Spec L2
variable {g : G} {X : Cx} {a b c : Expr} {a' b' c' : E} {pos apos cpos : Pos} {rest es : List Expr} {es' : Es} {F : Nat}
theorem isLst_at {st : Sto} {d : D} (h : isLst st d = true) : ∃ m xs, d = .loc m ∧ st[m]? = some (.lst xs) := by
 cases d with
 | loc m =>
  simp only [isLst] at h
  split at h
  · rename_i xs e; exact ⟨m, xs, rfl, e⟩
  · cases h
 | _ => cases h
theorem bls_val {rho : List Addr} {H : Hp} : ∀ {ds : List D} {vs : List V} {us : List Value} {bs : List Bool}, g.RepL rho H ds vs → Vals vs us → blsOf ds = some bs → us = bs.map Value.bool
 | [], vs, us, bs, r, rv, e => by
  simp only [RepL] at r; subst r
  cases rv
  simp [blsOf] at e; subst e; rfl
 | d :: t, vs, us, bs, r, rv, e => by
  simp only [RepL] at r
  obtain ⟨v, w, rfl, r1, r2⟩ := r
  cases d with
  | bl b =>
   simp only [blsOf] at e
   cases et : blsOf t with
   | none => rw [et] at e; cases e
   | some bs' =>
    rw [et] at e; cases e
    cases rep_bl.mp r1
    cases rv with
    | cons q1 q2 =>
     cases q1
     rw [bls_val r2 q2 et]; rfl
  | _ => cases e
theorem range_all (bs : List Bool) : (List.range bs.length).all (fun i => bs.getD i false) = bs.all id := by
 rw [Bool.eq_iff_iff, List.all_eq_true, List.all_eq_true]
 constructor
 · intro h b hb
   obtain ⟨i, hi, rfl⟩ := List.mem_iff_getElem.mp hb
   have := h i (List.mem_range.mpr hi)
   simpa [hi] using this
 · intro h i hi
   have hi := List.mem_range.mp hi
   have := h bs[i] (List.getElem_mem hi)
   simpa [hi] using this
def rBls (g : G) (all : Bool) : List V → Hp → VK → Prop := fun xs H Q => ∃ rho st m ds bs p, xs = [.ref p] ∧ g.Sto rho st H ∧ rho[m]? = some p ∧ lstOf st m = some ds ∧ blsOf ds = some bs ∧ Q (.bl (if all then bs.all id else bs.any id)) H
theorem bls_walk (hK : X.K = g.K) (hc : X.calm = true) {pins : List (Addr × Obj)} {s : Shared} {sg : L2.St} {H : Hp} {rho : List Addr} {st : Sto} {m : Nat} {ds : List D} {bs : List Bool} {p : Addr} {R : Bool → Prop} {QQ : Value → Shared → Prop} (I : Inv X pins sg H s) (S : g.Sto rho st H) (hr : rho[m]? = some p) (hl : lstOf st m = some ds) (hb : blsOf ds = some bs)
    (hQ : ∀ (it : Addr) (s₂ : Shared) (fp wr : List Addr) (P : Nat → Value → Prop) (St : Nat → Heap → Prop), Walks X.prog X.w X.A.in1 it fp wr bs.length P St → St 0 s₂.heap → TruthOf X.prog X.w X.A.in1 P (fun i => bs.getD i false) →
      (∀ h' tk, (∀ b o, b ∉ wr → s₂.heap.get? b = some o → h'.get? b = some o) → Inv X pins sg H { s₂ with heap := h', toks := tk }) → QQ (.ref it) s₂) :
    wpAny (model X.prog X.w) X.A.in1 (pyIter (.ref p)) QQ X.xe s := by
  obtain ⟨p2, vs, h1, sq, rl⟩ := sto_seq S hl
  rw [hr] at h1; cases h1
  rw [← hK] at sq
  obtain ⟨its, rv, pl, hz⟩ := I.list sq
  have e := bls_val rl rv hb
  subst e
  have hlt : p < s.heap.objs.size := by
    obtain ⟨o, ho, _⟩ := pl.isList
    exact Heap.lt_size ho
  refine wpAny_pyIter_list pl.isList (hQ _ _ [s.heap.objs.size, p] [s.heap.objs.size] (fun i v => (bs.map Value.bool).toArray[i]? = some v) (fun i h => h.IsListIter s.heap.objs.size p i ∧ h.IsList p (bs.map Value.bool).toArray) ?_ ⟨?_, ?_⟩ ?_ ?_)
  · have W := Walks.list (prog := X.prog) (w := X.w) (A := X.A.in1) (I.ok.hd hc) s.heap.objs.size p (Nat.ne_of_lt hlt) (bs.map Value.bool).toArray
    simpa using W
  · exact ⟨_, Heap.get?_push_size _ rfl, rfl, rfl⟩
  · exact pl.isList.push _
  · intro i v s Q E hP hQ
    have hP : (bs.map Value.bool)[i]? = some v := by simpa using hP
    rw [List.getElem?_map] at hP
    cases eb : bs[i]? with
    | none => rw [eb] at hP; cases hP
    | some b =>
      rw [eb] at hP; cases hP
      have : bs.getD i false = b := by simp [List.getD, eb]
      have hQ : Q (bs.getD i false) s := hQ
      rw [this] at hQ
      exact wpAny_truthy_bool hQ
  · intro h' tk hk
    refine I.kept (t' := tk) (h' := h') fun b u e => hk b u ?_ (Heap.get?_push_of_some _ e)
    intro z
    simp at z
    subst z
    exact Nat.lt_irrefl _ (Heap.lt_size e)
theorem call_allD (hK : X.K = g.K) (hc : X.calm = true) : CallR X (.builtin "all") (rBls g true) := by
 rintro pins s sg H xs us Q I r ⟨rho, st, m, ds, bs, p, rfl, S, hr, hl, hb, q⟩
 obtain ⟨u, rfl, ru⟩ := vals1 r
 cases ru
 refine call_all_walk (bls_walk (R := fun _ => True) hK hc I S hr hl hb fun it s₂ fp wr P St W hst htr hk => ⟨it, fp, wr, bs.length, P, St, _, rfl, W, hst, htr, fun h' tk k => ?_⟩)
 rw [range_all]
 exact ⟨.bl _, H, hk h' tk k, rfl, q⟩
theorem bls_in {ds : List D} {vs : List V} {st : Sto} {rho : List Addr} {H : Hp} {Q : VK} (s : g.Sto rho st H) (r : g.RepL rho H ds vs) (q : RQ g (btD .allB ds st) (Post g rho H Q) rho H) : rBls g true vs H Q := by
 obtain ⟨d, rfl⟩ := bt_one q
 obtain ⟨v, rfl, r1⟩ := repL1 r
 cases d with
 | loc n =>
  simp only [btD] at q
  cases el : lstOf st n with
  | none => rw [el] at q; exact q.elim
  | some xs =>
   rw [el, Option.bind_some] at q
   split at q
   · rename_i bs e
     obtain ⟨p, h1, rfl⟩ := rep_loc.mp r1
     exact ⟨rho, st, n, xs, bs, p, rfl, s, h1, el, e, (show Post g rho H Q (.bl _) st from q) _ H rho (.refl _ _) s (rep_bl.mpr rfl)⟩
   · exact q.elim
 | _ => exact q.elim
theorem sd_all {e : Expr} {p : Pos} (hK : X.K = g.K) (hc : X.calm = true) (hg : Gl X "all") (hm : X.mg "all" = none) (ha : SdL g X (e :: es) es') (he : starEach (e :: es) X.env = (false, eval e X.env) :: starEach es X.env := by rfl) (hpl : (backTo pos (starEach es X.env)).any (·.1) = false := by rfl) :
    Sd g X (.Call (.Name "all" p) (e :: es) [] pos) (.bt .allB es') := pe_imp (pe_callB (call_allD hK hc) hg hm rfl ha (by decide) (by decide) he hpl) fun sg H Q q => bts (f := .allB) (fun ds vs st rho H Q s r q => bls_in s r q) q
end DD
namespace DD
open PySem PySem.Spec L2
open PyProof.Rows hiding St RelV
variable {g : G} {X : Cx} {pos : Pos} {F : Nat}
noncomputable def tIfs (g : G) (e : Es) : TT := fun sg H Q => ∃ rho st env, g.Sto rho st H ∧ g.Env rho H env sg ∧ RQ g (evalIfs g.tab g.call e env st) (PostB g rho H Q) rho H
def PTs (X : Cx) (ifs : List Expr) (t : TT) : Prop := ∀ (pins : List (Addr × Obj)) (s : Shared) (sg : L2.St) (H : Hp) (Q : Bool → Hp → Prop), Inv X pins sg H s → t sg H Q →
 wpAny (model X.prog X.w) X.A (forIn ifs true fun c r => if r = true then do let ok ← isTrue c X.env (eval c X.env); pure (ForInStep.yield ok) else pure (ForInStep.yield r)) (TP X pins sg Q) X.xe s
theorem pts_nil : PTs X [] (tIfs g .nil) := fun pins s sg H Q I q => by
 obtain ⟨rho, st, env, S, n, q⟩ := q
 simp only [evalIfs] at q
 exact wpAny_tests_nil ⟨H, I, (show PostB g rho H Q true st from q) H rho (.refl _ _) S⟩
abbrev envG (X : Cx) (scope : Scope) (cl : List (Str × Addr)) (L : Addr) : PySem.Env := { newEnv scope L X.env.globals cl X.env.qual none .none (some X.env) builtinsNs with scope := relabel scope X.env }
abbrev cxG (X : Cx) (N : List Str) (scope : Scope) (cl : List (Str × Addr)) (L : Addr) (s0 : Shared) (H0 : Hp) (fp : List Addr) (pn : List (Addr × Obj)) : Cx :=
 { X with N := N, s₀ := s0, H₀ := H0, env := envG X scope cl L, outer := X.stack, stack := X.stack, ex := fp, fn := fun x => (cl.lookup x).isNone, pn := pn, xe := fun _ _ => False }
theorem fp_stkG {pins : List (Addr × Obj)} {sg : L2.St} {H H2 : Hp} {s : Shared} (I : L2.Inv X pins sg H s) {b : Addr} (h : FpOk X pins H2 b) : b ∉ frs X.stack := fun hm => by
 rcases List.mem_cons.mp (I.stkSub b hm) with z | z
 · exact h.2.1 z
 · exact h.2.2.1 z
structure Clos (X : Cx) (scope : Scope) (cl : List (Str × Addr)) : Prop where
 sub : ∀ x c, cl.lookup x = some c → X.env.cells.lookup x = some c
 has : ∀ x, ((relabel scope X.env).names.lookup x = some .cell ∨ (relabel scope X.env).names.lookup x = some .free) → ∃ c, cl.lookup x = some c
theorem compG_in {pins : List (Addr × Obj)} {sg : L2.St} {H : Hp} {s3 : Shared} {N : List Str} {nl : Nat} {fv : List Nat} {scope : Scope} {cl : List (Str × Addr)} {fp : List Addr} {h1 : Heap} {m : Str → Option Value} {tk : Nat} (hkind : scope.kind = .function) (C : Clos X scope cl)
    (hN : N.length = nl + fv.length) (hfv : ∀ j k, fv[j]? = some k → ∃ x c, N[nl + j]? = some x ∧ X.N[k]? = some x ∧ cl.lookup x = some c ∧ (X.env.scope.names.lookup x = some .cell ∨ X.env.scope.names.lookup x = some .free) ∧ ((relabel scope X.env).names.lookup x = some .cell ∨ (relabel scope X.env).names.lookup x = some .free))
    (I : L2.Inv X pins sg H s3) (hfp : ∀ b ∈ fp, FpOk X pins H b ∧ b < s3.heap.objs.size) (hn : h1.Ns s3.heap.objs.size m) (hk : ∀ b o, s3.heap.get? b = some o → h1.get? b = some o) :
    L2.Inv (cxG X N scope cl s3.heap.objs.size s3 H fp (X.pn ++ pins)) [] (List.replicate nl none ++ fv.map fun k => (sg[k]?).join) H { s3 with heap := h1, toks := tk } := by
  have fsF : ∀ b, b < s3.heap.objs.size → b ≠ s3.heap.objs.size := fun b h z => by rw [z] at h; exact Nat.lt_irrefl _ h
  refine ⟨⟨I.ok.mod, hkind, I.ok.glob, I.ok.blt, Nat.le_refl _, fun x y c h1 h2 => I.ok.inj x y c (C.sub x c h1) (C.sub y c h2), fun y hy => C.has y hy, fun y c hy h => ?_, I.ok.hd, I.ok.frames, .inl rfl, fun b hb => ⟨fsF b (hfp b hb).2, fun y c h => (hfp b hb).1.2.2.2.2.1 y c (C.sub y c h)⟩, I.bs, Nat.le_trans I.ok.bsz I.sz, fun b o e hb => ?_, fun b hb => fp_stkG I (hfp b hb).1, I.stack, I.stkFree⟩,
    rfl, I.bare, Un.kept hk, ⟨m, hn, fun i y v e1 e2 _ => ?_⟩, fun y c h => ?_, I.hok.fresh (Nat.le_refl _), fun y c h => I.freeC y c (C.sub y c h), fun p hp => ?_, I.hok.kept hk, ?_⟩
  · have h : cl.lookup y = some c := h
    have hy : (cl.lookup y).isNone = true := hy
    rw [h] at hy; cases hy
  · obtain ⟨f, _⟩ := hfp b hb
    rcases f.2.2.2.1 with z | z
    · exact I.ok.noex b o e z
    · exact absurd (Nat.lt_of_lt_of_le (Heap.lt_size e) (Nat.le_trans I.ok.bsz z)) (Nat.lt_irrefl _)
  · by_cases hi : i < nl
    · rw [List.getElem?_append_left (by simpa using hi), List.getElem?_replicate] at e2
      split at e2 <;> cases e2
    · rw [List.getElem?_append_right (by simp; omega)] at e2
      simp only [List.length_replicate, List.getElem?_map] at e2
      cases ek : fv[i - nl]? with
      | none => rw [ek] at e2; cases e2
      | some k =>
        rw [ek] at e2
        simp only [Option.map_some, Option.some.injEq] at e2
        obtain ⟨x, c, n1, n2, n3, n4, n5⟩ := hfv _ k ek
        have ei : nl + (i - nl) = i := by omega
        rw [ei] at n1
        have e1 : N[i]? = some y := e1
        rw [n1] at e1; cases e1
        have e3 : sg[k]? = some (some v) := by
          cases z : sg[k]? with
          | none => rw [z] at e2; cases e2
          | some o => rw [z] at e2; cases o with
            | none => cases e2
            | some w => cases e2; rfl
        obtain ⟨m0, hm0, hl⟩ := I.loc
        obtain ⟨u, ru, lk⟩ := hl k _ v n2 e3 (by rcases n4 with z | z; exact .inr (.inl z); exact .inr (.inr z))
        refine ⟨u, ru, .inr ⟨n5, c, n3, ?_⟩⟩
        rcases lk with ⟨k1, _⟩ | ⟨_, c2, k2, k3⟩
        · have k1 : X.env.scope.names.lookup y = some .local := k1
          rcases n4 with z | z <;> (rw [z] at k1; cases k1)
        · rw [C.sub _ c n3] at k2; cases k2
          obtain ⟨o, ho, hd⟩ := k3
          exact ⟨o, hk _ _ ho, hd⟩
  · obtain ⟨v, o, ho, hd⟩ := I.cell y c (C.sub y c h)
    exact ⟨v, o, hk _ _ ho, hd⟩
  · rw [List.append_nil] at hp
    obtain ⟨p1, p2, p3, p4, p5⟩ := I.pin p hp
    refine ⟨hk _ _ p1, p2, fsF _ (Heap.lt_size p1), fun hm => ?_, p5⟩
    rcases List.mem_cons.mp (I.stkSub p.1 hm) with z | z
    · exact p3 z
    · exact p4 z
  · show (List.replicate nl none ++ fv.map _).length = N.length
    simp [hN]
theorem compLoop_ifs {prog : Program} {w : World} {A : Around} {R : Result → Shared → Prop} {s : Shared} {elt target iter : Expr} {ifs : List Expr} {scope : Scope} {it acc : Value} {env : PySem.Env} (I : Nat → Shared → Prop)
    (turn : ∀ n s, I n s → wpAny (model prog w) A (pyNext it) (fun r s₁ => match r with
      | none => R (.ok .next) s₁
      | some v => wpAny (model prog w) A (letOwnedTupleGo target it v) (fun _ s₁ => wpAny (model prog w) A (assign target env v) (fun _ s₂ =>
          wpAny (model prog w) A (forIn ifs true fun c r => if r = true then do let ok ← isTrue c env (eval c env); pure (ForInStep.yield ok) else pure (ForInStep.yield r)) (fun ok s₃ =>
            if ok = true then wpAny (model prog w) A (eval elt env) (fun x s₄ =>
              wpAny (model prog w) A (call (.builtin "list.append") [acc, x]) (fun _ s₅ => ∃ m, m < n ∧ I m s₅) (notedBy (model prog w) A env fun e s' => R (.error e) s') s₄) (notedBy (model prog w) A env fun e s' => R (.error e) s') s₃
            else ∃ m, m < n ∧ I m s₃) (notedBy (model prog w) A env fun e s' => R (.error e) s') s₂) (notedBy (model prog w) A env fun e s' => R (.error e) s') s₁) (notedBy (model prog w) A env fun e s' => R (.error e) s') s₁) (notedBy (model prog w) A env fun e s' => R (.error e) s') s)
    (n : Nat) (h : I n s) : codeAny (model prog w) A (.compLoop (.ListComp elt [⟨target, iter, ifs, 0⟩] scope pos) 0 it acc env) R s := by
  refine codeAny_loop rfl I (fun n s hI => ?_) n h
  show wpAny _ _ ((compTurn (.ListComp elt [⟨target, iter, ifs, 0⟩] scope pos) 0 it acc env).onRaise (fun x => do noteFrame x env; theTreesLotGoes x)) _ _ s
  refine wpAny_noted ?_
  rw [compTurn_list]
  refine wpAny_bind (wpAny_standAt (wpAny_bind (wpAny_mono (turn n s hI) (fun r s₁ h₁ => ?_) fun _ _ h' => h')))
  cases r with
  | none => exact wpAny_pure h₁
  | some v =>
    refine wpAny_bind (wpAny_mono h₁ (fun _ s₁ h₁ => ?_) fun _ _ h' => h')
    refine wpAny_bind (wpAny_mono h₁ (fun _ s₂ h₂ => wpAny_bind (wpAny_mono h₂ (fun ok s₃ h₃ => ?_) fun _ _ h' => h')) fun _ _ h' => h')
    cases ok with
    | false => exact wpAny_pure ⟨rfl, h₃⟩
    | true =>
      exact wpAny_bind (wpAny_bind (wpAny_mono h₃ (fun x s₄ h₄ => wpAny_bind (wpAny_mono h₄ (fun _ s₅ h₅ => wpAny_pure (wpAny_pure ⟨rfl, h₅⟩)) fun _ _ h' => h')) fun _ _ h' => h'))
end DD
namespace DD
open PySem PySem.Spec L2
open PyProof.Rows hiding St RelV
variable {g : G} {X : Cx} {pos : Pos} {F : Nat}
def ItJ (g : G) (J : It) (xs : List D) (p : Option Nat) (r1 : List Addr) (H1 : Hp) : Prop := ∀ rho st H, g.Keep r1 H1 rho H → g.Sto rho st H → stays st p xs = true → J.stop xs.length H ∧ ∀ (i : Nat) (d : DD.D), xs[i]? = some d → J.go i H ∧ ∀ x H', J.yld i H x H' → H' = H ∧ g.Rep rho H d x
def SdI (g : G) (X : Cx) (target iter : Expr) (n : Nat) (it' : E) : Prop := ∃ wi : TI, PI X target iter wi ∧ ∀ rho st env sg H (R : It → Hp → Prop), g.Sto rho st H → g.Env rho H env sg →
 RQ g (evalE g.tab g.call it' env st) (fun d st1 => ∃ xs p, itOf n st1 d = some (xs, p) ∧ ∀ H1 r1 J, g.Keep rho H r1 H1 → g.Sto r1 st1 H1 → ItJ g J xs p r1 H1 → R J H1) rho H → wi sg H R
theorem si_list {target iter : Expr} {it' : E} (hK : X.K = g.K) (h : Sd g X iter it') : SdI g X target iter 0 it' := by
 refine ⟨_, pi_list h, fun rho st env sg H R s n q => ?_⟩
 refine ⟨rho, st, env, s, n, ?_⟩
 revert q
 cases evalE g.tab g.call it' env st with
 | bad => exact fun q => q
 | exc c st1 => exact fun q => q
 | ok d st1 =>
  rintro ⟨xs, p, e, q⟩ v H1 r1 k1 s1 rv
  cases d with
  | loc m =>
   simp only [itOf] at e
   cases el : lstOf st1 m with
   | none => rw [el] at e; cases e
   | some ds =>
    rw [el] at e; cases e
    obtain ⟨a, vs, hr, sq, rl⟩ := sto_seq s1 el
    obtain ⟨a2, hr2, rfl⟩ := rep_loc.mp rv
    rw [hr] at hr2; cases hr2
    refine ⟨a, rfl, ⟨vs, by rw [hK]; exact sq⟩, q H1 r1 _ k1 s1 ?_⟩
    rw [hK]
    intro rho st H kk s hst
    have hst : lstOf st m = some xs := of_decide_eq_true hst
    obtain ⟨p3, ws, hr3, sq3, rl3⟩ := sto_seq s hst
    rw [kk.at hr] at hr3; cases hr3
    refine ⟨⟨ws, sq3, by rw [← rl3.length]; exact Nat.le_refl _⟩, fun i d hd => ?_⟩
    obtain ⟨v, hv, rv⟩ := rl3.get hd
    refine ⟨⟨ws, v, sq3, hv⟩, fun x H' y => ⟨y.1, ?_⟩⟩
    have := y.2 ws sq3
    rw [hv] at this; cases this
    exact rv
  | _ => cases e
theorem si_tup {target iter : Expr} {it' : E} (hK : X.K = g.K) (h : Sd g X iter it') : SdI g X target iter 1 it' := by
 refine ⟨_, pi_tup h, fun rho st env sg H R s n q => ?_⟩
 refine ⟨rho, st, env, s, n, ?_⟩
 revert q
 cases evalE g.tab g.call it' env st with
 | bad => exact fun q => q
 | exc c st1 => exact fun q => q
 | ok d st1 =>
  rintro ⟨xs, p, e, q⟩ v H1 r1 k1 s1 rv
  cases d with
  | tup ds =>
   simp only [itOf] at e; cases e
   obtain ⟨a, vs, rfl, sq, rl⟩ := rep_tup.mp rv
   refine ⟨a, rfl, ⟨vs, by rw [hK]; exact sq⟩, q H1 r1 _ k1 s1 ?_⟩
   rw [hK]
   intro rho st H kk s hst
   have sq3 := kk.tup a vs sq
   have rl3 := rl.mono kk
   refine ⟨⟨vs, sq3, by rw [← rl3.length]; exact Nat.le_refl _⟩, fun i d hd => ?_⟩
   obtain ⟨v, hv, rv⟩ := rl3.get hd
   refine ⟨⟨vs, v, sq3, hv⟩, fun x H' y => ⟨y.1, ?_⟩⟩
   have := y.2 vs sq3
   rw [hv] at this; cases this
   exact rv
  | _ => cases e
theorem rng_J {lo : Int} {n : Nat} {r1 : List Addr} {H1 : Hp} : ItJ g (Itr lo n) (rngL lo n) none r1 H1 := by
 intro rho st H _ _ _
 refine ⟨?_, fun i d hd => ?_⟩
 · show n ≤ _
   simp [rngL]
 · have hi : i < n := by
    have := (List.getElem?_eq_some_iff.mp hd).1
    simpa [rngL] using this
   refine ⟨hi, fun x H' y => ⟨y.1, ?_⟩⟩
   have hd' : d = .int (lo + (i : Nat)) := by
    have := (List.getElem?_eq_some_iff.mp hd).2
    simp [rngL] at this
    simp [← this]
   rw [hd', rep_int]
   exact y.2
theorem si_rng1 {target a : Expr} {a' : E} {p pos : Pos} (hg : Gl X "range") (hm : X.mg "range" = none) (ha : Sd g X a a') (hs : starEach [a] X.env = [(false, eval a X.env)] := by rfl) : SdI g X target (.Call (.Name "range" p) [a] [] pos) 2 (.tupE (.cons a' .nil)) := by
 refine ⟨_, pi_range1 hg hm (sdl_cons ha sdl_nil hs) hs, fun rho st env sg H R s n q => ?_⟩
 refine ⟨rho, st, env, s, n, ?_⟩
 simp only [evalE] at q
 revert q
 cases ee : evalEs g.tab g.call (.cons a' .nil) env st with
 | bad => exact fun q => q
 | exc c st1 => exact fun q => q
 | ok ds st1 =>
  simp only [bind_ok]
  intro q vs H1 r1 k1 s1 rv
  split at q
  · obtain ⟨xs, p, e, q⟩ := q
    simp only [itOf] at e
    cases er : rngOf ds with
    | none => rw [er] at e; cases e
    | some ys =>
     rw [er] at e; cases e
     have hl : ds.length = 1 := evalEs_len ee
     obtain ⟨j, rfl, j1, j2, rfl⟩ := rng1 (e := a) er hl
     obtain ⟨v, rfl, rv2⟩ := repL1 rv
     exact ⟨j, by rw [rep_int.mp rv2], j1, j2, q H1 r1 _ k1 s1 rng_J⟩
  · exact q.elim
noncomputable def cBody (g : G) (tg : List Nat) (one : Bool) (env0 : Env) (ifs : Es) (elt : E) (d : D) (st : Sto) : Res (Option D) := match store tg one d env0 with
 | some env' => (evalIfs g.tab g.call ifs env' st).bind fun b st => if b then (evalE g.tab g.call elt env' st).bind fun y st => .ok (some y) st else .ok none st
 | none => .bad
theorem compG_noexc {all : List D} {p : Option Nat} {n0 : Nat} {body : D → Sto → Res (Option D)} {c : Nat} {st' : Sto} : ∀ {xs : List D} {st : Sto}, compLoop all p n0 body xs st ≠ .exc c st'
 | [], st => by
  simp only [compLoop]
  split <;> (intro h; cases h)
 | d :: r, st => by
  simp only [compLoop]
  split
  · split
    · split
      · split
        · exact compG_noexc
        · intro h; cases h
      · intro h; cases h
    · exact compG_noexc
    · intro h; cases h
  · intro h; cases h
theorem setAll_high {nl : Nat} : ∀ {is : List Nat} {ds : List D} {env env' : Env}, setAll is ds env = some env' → (∀ i ∈ is, i < nl) → env'.length = env.length ∧ ∀ j, nl ≤ j → env'[j]? = env[j]?
 | [], [], env, env', e, _ => by simp only [setAll] at e; cases e; exact ⟨rfl, fun _ _ => rfl⟩
 | [], _ :: _, env, env', e, _ => by simp [setAll] at e
 | _ :: _, [], env, env', e, _ => by simp [setAll] at e
 | i :: r, d :: t, env, env', e, h => by
  simp only [setAll] at e
  split at e
  · obtain ⟨h1, h2⟩ := setAll_high e fun k hk => h k (List.mem_cons_of_mem _ hk)
    have hi := h i List.mem_cons_self
    refine ⟨by rw [h1]; simp, fun j hj => ?_⟩
    rw [h2 j hj, List.getElem?_set_ne (by omega)]
  · cases e
theorem store_high {nl : Nat} {is : List Nat} {one : Bool} {d : D} {env env' : Env} (e : store is one d env = some env') (h : ∀ i ∈ is, i < nl) : env'.length = env.length ∧ ∀ j, nl ≤ j → env'[j]? = env[j]? := by
 unfold store at e
 cases one with
 | true => rw [if_pos rfl] at e; exact setAll_high e h
 | false =>
  rw [if_neg Bool.false_ne_true] at e
  cases d with
  | tup ds => exact setAll_high e h
  | _ => cases e
theorem envIn_low {nl : Nat} {fv : List Nat} {env : Env} {j : Nat} {d : D} (h : (envIn nl fv env)[j]? = some (some d)) : nl ≤ j ∧ ∃ k, fv[j - nl]? = some k ∧ getV env k = some d := by
 unfold envIn at h
 by_cases hj : j < nl
 · rw [List.getElem?_append_left (by simpa using hj), List.getElem?_replicate] at h
   split at h <;> cases h
 · refine ⟨by omega, ?_⟩
   rw [List.getElem?_append_right (by simp; omega)] at h
   simp only [List.length_replicate, List.getElem?_map] at h
   cases ek : fv[j - nl]? with
   | none => rw [ek] at h; cases h
   | some k => rw [ek] at h; simp only [Option.map_some, Option.some.injEq] at h; exact ⟨k, rfl, h⟩
theorem getV_at {env : Env} {k : Nat} {d : D} (h : getV env k = some d) : env[k]? = some (some d) := by
 unfold getV at h
 cases z : env[k]? with
 | none => rw [z] at h; cases h
 | some o => rw [z] at h; cases o with
  | none => cases h
  | some y => cases h; rfl
theorem env_in {rho : List Addr} {H : Hp} {env : Env} {sg : L2.St} (n : g.Env rho H env sg) (nl : Nat) (fv : List Nat) : g.Env rho H (envIn nl fv env) (List.replicate nl none ++ fv.map fun k => (sg[k]?).join) := by
 refine ⟨by simp [envIn], fun j d e => ?_⟩
 obtain ⟨hj, k, ek, ed⟩ := envIn_low e
 obtain ⟨v, e1, r⟩ := n.val k d (getV_at ed)
 refine ⟨v, ?_, r⟩
 rw [List.getElem?_append_right (by simp; omega)]
 simp [ek, e1]
theorem env_back {rho : List Addr} {H : Hp} {env0 env' : Env} {sg : L2.St} {nl : Nat} {fv : List Nat} {env : Env} (h0 : env0 = envIn nl fv env) (hl : env'.length = env0.length) (hh : ∀ j, nl ≤ j → env'[j]? = env0[j]?) (n : g.Env rho H env' sg) : g.Env rho H env0 sg := by
 subst h0
 refine ⟨by rw [← hl]; exact n.len, fun j d e => ?_⟩
 obtain ⟨hj, _⟩ := envIn_low e
 exact n.val j d (by rw [hh j hj]; exact e)
end DD
namespace DD
open PySem PySem.Spec L2
open PyProof.Rows hiding St RelV
variable {g : G} {X : Cx} {pos : Pos} {F : Nat}
theorem compG_core {elt iter target : Expr} {ifs : List Expr} {N : List Str} {nl : Nat} {fv tgs : List Nat} {one : Bool} {k : Nat} {scope : Scope} {cl : List (Str × Addr)} {it' elt' : E} {ifs' : Es} (hK : X.K = g.K) (hc : X.calm = true) (hkind : scope.kind = .function) (hcell : ∀ y ∈ scope.names, y.2 ≠ .cell)
    (hnames : ∀ y ∈ scope.names, y.2 = .local → scope.names.lookup y.1 = some .local) (hclos : closureFor scope X.env = pure cl) (C : Clos X scope cl) (hN : N.length = nl + fv.length)
    (hfv : ∀ j k, fv[j]? = some k → ∃ x c, N[nl + j]? = some x ∧ X.N[k]? = some x ∧ cl.lookup x = some c ∧ (X.env.scope.names.lookup x = some .cell ∨ X.env.scope.names.lookup x = some .free) ∧ ((relabel scope X.env).names.lookup x = some .cell ∨ (relabel scope X.env).names.lookup x = some .free))
    (htg : ∀ i ∈ tgs, i < nl) (hi : SdI g X target iter k it') (hg : ∀ L s0 H0 fp pn, PG (cxG X N scope cl L s0 H0 fp pn) target (tg g.K tgs one))
    (ht : ∀ L s0 H0 fp pn, PTs (cxG X N scope cl L s0 H0 fp pn) ifs (tIfs (g.with fun _ _ _ => False) ifs')) (he : ∀ L s0 H0 fp pn, Sd (g.with fun _ _ _ => False) (cxG X N scope cl L s0 H0 fp pn) elt elt')
    (hs : ∀ x, foldedSetIterable iter X.env x = pure x := by intro _; rfl)
    {use : Option (Value → Sem Unit)} {Qv : Value → Shared → Prop} {pins : List (Addr × Obj)} {s : Shared} {sg : L2.St} {H : Hp} {Q : VK} (I : L2.Inv X pins sg H s) (q : tE g (.comp k one nl tgs fv it' ifs' elt') sg H Q)
    (hfin : ∀ (ac C : Addr) (H' : Hp) (s4 : Shared), (∃ m, s4.heap.Ns C m) → FpOk X pins H' C → (∀ h', Heap.SameBut C s4.heap h' → L2.Inv X pins sg H' { s4 with heap := h' }) → Q (.ref ac) H' → compPost (model X.prog X.w) X.A X.xe use Qv (.ref ac) C (.ok .next) s4) :
    wpAny (model X.prog X.w) X.A (comprehension (.ListComp elt [⟨target, iter, ifs, 0⟩] scope pos) scope X.env (firstIterPos [⟨target, iter, ifs, 0⟩] pos) (newList []) (firstAsync [⟨target, iter, ifs, 0⟩]) (firstIter [⟨target, iter, ifs, 0⟩] X.env) use) Qv X.xe s := by
  obtain ⟨rho, st, env, S, n, q⟩ := q
  obtain ⟨wi, hpi, hwi⟩ := hi
  generalize hB : cBody g tgs one (envIn nl fv env) ifs' elt' = body
  have q : RQ g ((evalE g.tab g.call it' env st).bind fun d st => match itOf k st d with
      | some (xs, p) => (compLoop xs p st.length body xs (st ++ [.lst []])).bind fun _ st' => .ok (.loc st.length) st'
      | none => .bad) (Post g rho H Q) rho H := by
    rw [← hB]
    simp only [evalE] at q
    exact q
  refine wpAny_comprehension_free (use := use) rfl hs hclos hkind hnames ?_
  have hpi := hpi pins s sg H
    (fun J H1 => ∃ r1 st1 xs p, g.Keep rho H r1 H1 ∧ g.Sto r1 st1 H1 ∧ ItJ g J xs p r1 H1 ∧
      RQ g ((compLoop xs p st1.length body xs (st1 ++ [.lst []])).bind fun _ st' => .ok (.loc st1.length) st') (Post g rho H Q) r1 H1) I ?_
  · refine thn hpi fun v s1 h1 => thn h1 fun itv s2 h2 => ?_
    obtain ⟨it, fp, tn, J, H1, rfl, I2, T, st2, f2, r1, st1, xs, p, k1, S1, hJ, q1⟩ := h2
    obtain ⟨stf, hloop, q1⟩ : ∃ stf, compLoop xs p st1.length body xs (st1 ++ [.lst []]) = .ok () stf ∧ Post g rho H Q (.loc st1.length) stf := by
      revert q1
      cases e : compLoop xs p st1.length body xs (st1 ++ [.lst []]) with
      | ok u stf => exact fun q => ⟨stf, rfl, q⟩
      | exc c st2 => exact absurd e compG_noexc
      | bad => exact fun q => q.elim
    refine wpAny_newObj_type ?_
    have I3 := I2.lnew (its := []) (ys := []) (t' := s2.toks) .nil (Nat.zero_le _)
    have hn3 := I2.fresh
    generalize hs3 : ({ s2 with heap := s2.heap.push { cls := .type "list", data := .seq ([] : List Value).toArray } } : Shared) = s3
    have I3 : L2.Inv X pins sg (upd H1 s2.heap.objs.size (.lst [])) s3 := by rw [← hs3]; exact I3
    have hsz : s3.heap.objs.size = s2.heap.objs.size + 1 := by rw [← hs3]; exact Heap.size_push _ _
    have up3 : ∀ b o, s2.heap.get? b = some o → s3.heap.get? b = some o := fun b o e => by rw [← hs3]; exact Heap.get?_push_of_some _ e
    have hfp : ∀ b ∈ fp, FpOk X pins (upd H1 s2.heap.objs.size (.lst [])) b ∧ b < s3.heap.objs.size := fun b hb => by
      obtain ⟨o, ho, _⟩ := T.obj _ _ st2 b hb
      have hlt := Heap.lt_size ho
      refine ⟨⟨?_, (f2 b hb).2⟩, by rw [hsz]; exact Nat.lt_succ_of_lt hlt⟩
      rw [upd_ne (Nat.ne_of_lt hlt)]
      exact (f2 b hb).1
    have k13 : g.Keep r1 H1 (r1 ++ [s2.heap.objs.size]) (upd H1 s2.heap.objs.size (.lst [])) := (S1.laid hn3 (o := .lst []) (c := .lst []) ⟨[], upd_same, by simp [RepL]⟩).1
    have S3 : g.Sto (r1 ++ [s2.heap.objs.size]) (st1 ++ [.lst []]) (upd H1 s2.heap.objs.size (.lst [])) := (S1.laid hn3 (o := .lst []) (c := .lst []) ⟨[], upd_same, by simp [RepL]⟩).2
    have acc_at : (r1 ++ [s2.heap.objs.size])[st1.length]? = some s2.heap.objs.size := by rw [← S1.len]; simp
    generalize hH3 : upd H1 s2.heap.objs.size (.lst []) = H3 at *
    generalize hac : s2.heap.objs.size = ac at *
    generalize hr3 : r1 ++ [ac] = r3 at *
    refine wpAny_newFunctionEnv hcell (by intro y hy; simp at hy) (fun h₁ hns₁ hsb₁ => ?_) hkind
    have hk1 : ∀ b o, s3.heap.get? b = some o → h₁.get? b = some o := fun b o e => hsb₁.extBut b o (Nat.ne_of_lt (Heap.lt_size e)) (Heap.get?_push_of_some _ e)
    have J0 := compG_in (N := N) (nl := nl) (fv := fv) (tk := s3.toks + ([] : List (Str × Value)).length) hkind C hN hfv I3 hfp hns₁ hk1
    have n0 := env_in (n.mono (k1.trans k13)) nl fv
    generalize hsg0 : (List.replicate nl none ++ fv.map fun k => (sg[k]?).join : L2.St) = sg0 at J0 n0
    have tn0 : tn 0 h₁ := T.keep _ _ _ st2 fun b _ o e => hk1 b o (up3 b o e)
    have bfp : ∀ {H' : Hp}, (∀ b ∈ fp, H' b = none) → ∀ b ∈ fp, FpOk (cxG X N scope cl s3.heap.objs.size s3 H3 fp (X.pn ++ pins)) [] H' b := fun hn b hb => by
      obtain ⟨f, hlt⟩ := hfp b hb
      refine ⟨hn b hb, fun z => ?_, fp_stkG I3 f, .inl hb, fun y c h => f.2.2.2.2.1 y c (C.sub y c h), fun p hp => f.2.2.2.2.2 p (by rw [List.append_nil] at hp; exact hp)⟩
      have : s3.heap.objs.size < s3.heap.objs.size := by rw [z] at hlt; exact hlt
      exact Nat.lt_irrefl _ this
    have loop : codeAny (model X.prog X.w) X.A (.compLoop (.ListComp elt [⟨target, iter, ifs, 0⟩] scope pos) 0 (.ref it) (.ref ac) (envG X scope cl s3.heap.objs.size))
        (compPost (model X.prog X.w) X.A X.xe use Qv (.ref ac) s3.heap.objs.size)
        { s3 with heap := h₁, toks := s3.toks + ([] : List (Str × Value)).length } := by
      refine compLoop_ifs (fun mm s' => ∃ i rho' st' H' sg', L2.Inv (cxG X N scope cl s3.heap.objs.size s3 H3 fp (X.pn ++ pins)) [] sg' H' s' ∧ tn i s'.heap ∧ (∀ b ∈ fp, H' b = none) ∧ g.Keep r3 H3 rho' H' ∧ g.Sto rho' st' H' ∧ g.Env rho' H' (envIn nl fv env) sg' ∧ mm = xs.length - i ∧ i ≤ xs.length ∧
        compLoop xs p st1.length body (xs.drop i) st' = .ok () stf) ?_ xs.length ⟨0, r3, _, H3, sg0, J0, tn0, fun b hb => (hfp b hb).1.1, .refl _ _, S3, n0, by simp, Nat.zero_le _, hloop⟩
      rintro mm s' ⟨i, rho', st', H', sg', I', tn', fr', kk, S', n', rfl, hi, hl'⟩
      have hst : stays st' p xs = true := by
        cases z : stays st' p xs with
        | true => rfl
        | false =>
          exfalso
          cases e : xs.drop i with
          | nil => rw [e] at hl'; simp only [compLoop, z] at hl'; cases hl'
          | cons d t => rw [e] at hl'; simp only [compLoop, z] at hl'; cases hl'
      obtain ⟨jstop, jgo⟩ := hJ rho' st' H' (k13.trans kk) S' hst
      by_cases hlt : i < xs.length
      · obtain ⟨hgo, hy⟩ := jgo i xs[i] (List.getElem?_eq_getElem hlt)
        rw [List.drop_eq_getElem_cons hlt] at hl'
        simp only [compLoop, hst, if_true] at hl'
        refine thn (T.item (cxG X N scope cl s3.heap.objs.size s3 H3 fp (X.pn ++ pins)) rfl rfl rfl hc i [] s' sg' H' _ I' (bfp fr') tn' hgo) fun r s4 ⟨u, hr4, h4⟩ => ?_
        subst hr4
        refine thn h4 fun _ s5 ⟨x5, H5, I5, r5, y5, tn5, fr5⟩ => ?_
        obtain ⟨e5, rx5⟩ := hy x5 H5 y5
        subst e5
        have I5' := I5.pinned (bfp fr5) (T.obj _ _ tn5)
        obtain ⟨env', es⟩ : ∃ env', store tgs one xs[i] (envIn nl fv env) = some env' := by
          cases es : store tgs one xs[i] (envIn nl fv env) with
          | some env' => exact ⟨env', rfl⟩
          | none =>
            exfalso
            have : body xs[i] st' = .bad := by rw [← hB]; unfold cBody; rw [es]
            rw [this] at hl'; cases hl'
        have hbody : body xs[i] st' = (evalIfs g.tab g.call ifs' env' st').bind fun b st => if b then (evalE g.tab g.call elt' env' st).bind fun y st => .ok (some y) st else .ok none st := by
          rw [← hB]; unfold cBody; rw [es]
        rw [hbody] at hl'
        obtain ⟨hel, hhi⟩ := store_high es htg
        refine wpAny_mono (hg s3.heap.objs.size s3 H3 fp (X.pn ++ pins) _ s5 sg' H5 x5 u (fun sg6 H6 => H6 = H5 ∧ g.Env rho' H6 env' sg6) I5' r5 (tg_store (g := g) es rx5 n' fun sg6 n6 => ⟨rfl, n6⟩)) (fun _ s6 h6 => ?_) (fun _ _ z => z.elim)
        obtain ⟨sg6, H6, I6, e6, n6⟩ := h6
        subst e6
        obtain ⟨b, st2, eb, hl'⟩ : ∃ b st2, evalIfs g.tab g.call ifs' env' st' = .ok b st2 ∧ (match (if b then (evalE g.tab g.call elt' env' st2).bind fun y st => .ok (some y) st else .ok none st2 : Res (Option D)) with
            | .ok (some y) st' => (match st'[st1.length]? with
              | some (.lst ys) => if ys.length < sizeLine then compLoop xs p st1.length body (xs.drop (i + 1)) (st'.set st1.length (.lst (ys ++ [y]))) else .bad
              | _ => .bad)
            | .ok none st' => compLoop xs p st1.length body (xs.drop (i + 1)) st'
            | _ => .bad) = Res.ok () stf := by
          cases eb : evalIfs g.tab g.call ifs' env' st' with
          | ok b st2 => rw [eb] at hl'; exact ⟨b, st2, rfl, hl'⟩
          | exc c st2 => rw [eb] at hl'; cases hl'
          | bad => rw [eb] at hl'; cases hl'
        refine wpAny_mono (ht s3.heap.objs.size s3 H3 fp (X.pn ++ pins) _ s6 sg6 H6 (fun b' H7 => b' = b ∧ ∃ rho7, g.Keep rho' H6 rho7 H7 ∧ g.Sto rho7 st2 H7) I6 ⟨rho', st', env', S', n6, ?_⟩) (fun ok s7 h7 => ?_) (fun _ _ z => z.elim)
        · show RQ (g.with fun _ _ _ => False) (evalIfs g.tab g.call ifs' env' st') _ rho' H6
          rw [eb]
          exact fun H7 rho7 k7 s7 => ⟨rfl, rho7, k7, s7⟩
        obtain ⟨H7, I7, e7, rho7, k7, S7⟩ := h7
        subst e7
        have n7 : g.Env rho7 H7 env' sg6 := n6.mono k7
        have done : ∀ (rho9 : List Addr) (st9 : Sto) (H9 : Hp) (s9 : Shared), L2.Inv (cxG X N scope cl s3.heap.objs.size s3 H3 fp (X.pn ++ pins)) ([] ++ pinsAt fp s5.heap) sg6 H9 s9 → g.Keep rho7 H7 rho9 H9 → g.Sto rho9 st9 H9 → compLoop xs p st1.length body (xs.drop (i + 1)) st9 = .ok () stf →
            ∃ m, m < xs.length - i ∧ ∃ i rho' st' H' sg', L2.Inv (cxG X N scope cl s3.heap.objs.size s3 H3 fp (X.pn ++ pins)) [] sg' H' s9 ∧ tn i s9.heap ∧ (∀ b ∈ fp, H' b = none) ∧ g.Keep r3 H3 rho' H' ∧ g.Sto rho' st' H' ∧ g.Env rho' H' (envIn nl fv env) sg' ∧ m = xs.length - i ∧ i ≤ xs.length ∧ compLoop xs p st1.length body (xs.drop i) st' = .ok () stf := by
          intro rho9 st9 H9 s9 I9 k9 S9 hl9
          refine ⟨xs.length - (i + 1), by omega, i + 1, rho9, st9, H9, sg6, I9.unpinned, T.keep _ _ _ tn5 fun b hb o e => (I9.pin (b, o) (List.mem_append_right _ (List.mem_append_right _ (mem_pinsAt hb e)))).1, fun b hb => ?_, (kk.trans k7).trans k9, S9, env_back rfl hel hhi (n7.mono k9), rfl, hlt, hl9⟩
          obtain ⟨o, e, d⟩ := T.obj _ _ tn5 b hb
          exact (I9.pin (b, o) (List.mem_append_right _ (List.mem_append_right _ (mem_pinsAt hb e)))).2.1
        cases ok with
        | false =>
          rw [if_neg Bool.false_ne_true]
          simp only [Bool.false_eq_true, if_false] at hl'
          exact done rho7 st2 H7 s7 I7 (.refl _ _) S7 hl'
        | true =>
          rw [if_pos rfl]
          simp only [if_true] at hl'
          obtain ⟨y, st4, ee, hl'⟩ : ∃ y st4, evalE g.tab g.call elt' env' st2 = .ok y st4 ∧ (match st4[st1.length]? with
              | some (.lst ys) => if ys.length < sizeLine then compLoop xs p st1.length body (xs.drop (i + 1)) (st4.set st1.length (.lst (ys ++ [y]))) else .bad
              | _ => .bad) = Res.ok () stf := by
            cases ee : evalE g.tab g.call elt' env' st2 with
            | ok y st4 => rw [ee] at hl'; exact ⟨y, st4, rfl, hl'⟩
            | exc c st4 => rw [ee] at hl'; cases hl'
            | bad => rw [ee] at hl'; cases hl'
          obtain ⟨ys, ey, hys, hl'⟩ : ∃ ys, st4[st1.length]? = some (.lst ys) ∧ ys.length < sizeLine ∧ compLoop xs p st1.length body (xs.drop (i + 1)) (st4.set st1.length (.lst (ys ++ [y]))) = .ok () stf := by
            split at hl'
            · rename_i ys ey
              split at hl'
              · rename_i hys; exact ⟨ys, ey, hys, hl'⟩
              · cases hl'
            · cases hl'
          refine wpAny_mono (he s3.heap.objs.size s3 H3 fp (X.pn ++ pins) _ s7 sg6 H7 (fun w H8 => ∃ rho8, g.Keep rho7 H7 rho8 H8 ∧ g.Sto rho8 st4 H8 ∧ g.Rep rho8 H8 y w) I7 ⟨rho7, st2, env', S7, n7, ?_⟩) (fun yv s8 h8 => ?_) (fun _ _ z => z.elim)
          · show RQ (g.with fun _ _ _ => False) (evalE g.tab g.call elt' env' st2) _ rho7 H7
            rw [ee]
            exact fun w H8 rho8 k8 s8 r8 => ⟨rho8, k8, s8, r8⟩
          obtain ⟨w, H8, I8, rw8, rho8, k8, S8, rp8⟩ := h8
          obtain ⟨a8, us, hr8, hH8, rl8⟩ := sto_lst S8 ey
          rw [k8.at (k7.at (kk.at acc_at))] at hr8; cases hr8
          have hrep : g.RepL rho8 H8 (ys ++ [y]) (us ++ [w]) := rl8.append (by simp only [RepL]; exact ⟨w, [], rfl, rp8, rfl⟩)
          obtain ⟨k9, S9⟩ := S8.wrote (k8.at (k7.at (kk.at acc_at))) ey hH8 hrep
          refine wpAny_mono (mt_append (X := cxG X N scope cl s3.heap.objs.size s3 H3 fp (X.pn ++ pins)) _ s8 _ H8 (.ref ac) [w] (.ref ac) [yv] (fun _ H9 => H9 = upd H8 ac (.lst (us ++ [w]))) I8 rfl (.cons rw8 .nil) ⟨ac, us, w, rfl, rfl, hH8, by rw [← rl8.length]; exact hys, rfl⟩) (fun _ s9 h9 => ?_) (fun _ _ z => z.elim)
          obtain ⟨_, H9, I9, _, e9⟩ := h9
          subst e9
          exact done rho8 _ _ s9 I9 (k8.trans k9) S9 hl'
      · have ei : i = xs.length := by omega
        subst ei
        refine thn (T.done (cxG X N scope cl s3.heap.objs.size s3 H3 fp (X.pn ++ pins)) rfl rfl rfl hc xs.length [] s' sg' H' _ I' (bfp fr') tn' jstop) fun r s4 ⟨hr4, I4⟩ => ?_
        subst hr4
        rw [List.drop_eq_nil_of_le (Nat.le_refl _)] at hl'
        simp only [compLoop, hst, if_true] at hl'
        cases hl'
        obtain ⟨m4, hn4, _⟩ := I4.loc
        refine hfin ac s3.heap.objs.size H' s4 ⟨m4, hn4⟩ (I3.fpOk (Nat.le_refl _) I4.free) (fun h' sb => ?_) (q1 (.ref ac) H' rho' ((k1.trans k13).trans kk) S' (rep_loc.mpr ⟨ac, kk.at acc_at, rfl⟩))
        have u4 : Un (frs X.stack) fp H3 H' s3.heap s4.heap := I4.base
        have hL : ∀ b o, s3.heap.get? b = some o → b ≠ s3.heap.objs.size := fun b o e => Nat.ne_of_lt (Heap.lt_size e)
        have fL : H' s3.heap.objs.size = none := I4.free
        refine I3.call' (s' := { s4 with heap := h' }) (ch := fp) I4.os ⟨fun b o e n hb hx => (sb.2 b (hL b o e)).trans (u4.keep b o e n hb hx), fun b o e n hb hx => ?_, u4.free, fun b o e hx => ?_, u4.tups, u4.frzs, u4.tbls⟩ (fun b o e => ?_) I4.bare fun b hb => ?_
        · obtain ⟨sl, e1⟩ := u4.slot b o e n hb hx
          exact ⟨sl, (sb.2 b (hL b o e)).trans e1⟩
        · obtain ⟨o', e1⟩ := u4.there b o e hx
          exact ⟨o', (sb.2 b (hL b o e)).trans e1⟩
        · refine (I4.hok b o e).stay (fun c u hc' g' => (sb.2 c ?_).trans g') (fun _ h => h) fun _ _ h => h
          intro z
          rcases hc' with rfl | hc'
          · rw [z, fL] at e; cases e
          · rw [z, fL] at hc'; cases hc'
        · obtain ⟨f, _⟩ := hfp b hb
          exact ⟨f.2.2.2.1, f.2.1, f.2.2.2.2.1, f.2.2.2.2.2⟩
    exact codeAny_compStart_list loop (T.self _ 0 _ _ _ tn0 loop)
  · refine hwi rho st env sg H _ S n ?_
    revert q
    cases evalE g.tab g.call it' env st with
    | bad => exact fun q => q
    | exc c st1 => exact fun q => q
    | ok d st1 =>
      simp only [bind_ok]
      intro q
      cases ei : itOf k st1 d with
      | none => rw [ei] at q; exact q.elim
      | some xp =>
        obtain ⟨xs, p⟩ := xp
        rw [ei] at q
        exact ⟨xs, p, ei, fun H1 r1 J k1 s1 hJ => ⟨r1, st1, xs, p, k1, s1, hJ, RQ.mono k1 q fun _ _ z => z⟩⟩
theorem sd_compG {elt iter target : Expr} {ifs : List Expr} {N : List Str} {nl : Nat} {fv tgs : List Nat} {one : Bool} {k : Nat} {scope : Scope} {cl : List (Str × Addr)} {it' elt' : E} {ifs' : Es} (hK : X.K = g.K) (hc : X.calm = true) (hkind : scope.kind = .function) (hcell : ∀ y ∈ scope.names, y.2 ≠ .cell)
    (hnames : ∀ y ∈ scope.names, y.2 = .local → scope.names.lookup y.1 = some .local) (hclos : closureFor scope X.env = pure cl) (C : Clos X scope cl) (hN : N.length = nl + fv.length)
    (hfv : ∀ j k, fv[j]? = some k → ∃ x c, N[nl + j]? = some x ∧ X.N[k]? = some x ∧ cl.lookup x = some c ∧ (X.env.scope.names.lookup x = some .cell ∨ X.env.scope.names.lookup x = some .free) ∧ ((relabel scope X.env).names.lookup x = some .cell ∨ (relabel scope X.env).names.lookup x = some .free))
    (htg : ∀ i ∈ tgs, i < nl) (hi : SdI g X target iter k it') (hg : ∀ L s0 H0 fp pn, PG (cxG X N scope cl L s0 H0 fp pn) target (tg g.K tgs one))
    (ht : ∀ L s0 H0 fp pn, PTs (cxG X N scope cl L s0 H0 fp pn) ifs (tIfs (g.with fun _ _ _ => False) ifs')) (he : ∀ L s0 H0 fp pn, Sd (g.with fun _ _ _ => False) (cxG X N scope cl L s0 H0 fp pn) elt elt')
    (hs : ∀ x, foldedSetIterable iter X.env x = pure x := by intro _; rfl) :
    Sd g X (.ListComp elt [⟨target, iter, ifs, 0⟩] scope pos) (.comp k one nl tgs fv it' ifs' elt') := by
  intro pins s sg H Q I q
  rw [eval_ListComp]
  exact compG_core hK hc hkind hcell hnames hclos C hN hfv htg hi hg ht he hs I q fun ac C H' s4 ⟨m, hn⟩ _ hI hq => ⟨m, hn, fun h' sb => ⟨.ref ac, H', hI h' sb, rfl, hq⟩⟩
end DD
namespace DD
open PySem PySem.Spec L2
open PyProof.Rows hiding St RelV
variable {g : G} {X : Cx} {pos : Pos} {F : Nat}
noncomputable def Its (z : Str) : It := ⟨fun i _ => i < z.cps.size, fun i H x H' => H' = H ∧ ∃ c, z.cps[i]? = some c ∧ x = .str ⟨#[c]⟩, fun i _ => z.cps.size ≤ i⟩
theorem turn_str {P : Program} {w : World} {K : PySem.W.Frag} {tg : Expr} (it : Addr) (z : Str) (t : Tok) (nm : String) (hnm : ["enumerate", "zip", "dict_itemiterator", "dict_reverseitemiterator", "odict_iterator", "itertools.zip_longest", "itertools.pairwise"].contains nm = false)
    (W : ∀ A' : Around, A'.handled = none → Walks P w A' it [it] [it] z.cps.size (SignAt z) (fun i h => h.IsStrIter it nm z t i))
    (hself : ∀ (A : Around) (i : Nat) (s : Shared) (Q : Value → Shared → Prop) (E : Value → Shared → Prop), s.heap.IsStrIter it nm z t i → Q (.ref it) s → wpAny (model P w) A (pyIter (.ref it)) Q E s) : Turn P w K tg (Its z) [it] it (fun i h => i ≤ z.cps.size ∧ h.IsStrIter it nm z t i) where
  mem := by simp
  obj := fun i h st b hb => by
    have e : b = it := by simpa using hb
    subst e
    obtain ⟨_, o, e, c, d⟩ := st
    exact ⟨o, e, fun v z => by rw [d] at z; cases z⟩
  keep := fun i h h' st k => let ⟨hi, o, ho, r⟩ := st; ⟨hi, o, k it (by simp) o ho, r⟩
  item := by
    intro X hP hw hK hc i pins s sg H E I hf st hg
    subst hP hw hK
    have hg : i < z.cps.size := hg
    obtain ⟨f0, f1, f2, f3, f4, f5⟩ := hf it (by simp)
    refine (W X.A (I.ok.hd hc)).item i s _ _ hg st.2 fun v h' tk hv st' kk => ?_
    obtain ⟨c, u, hcv, rfl⟩ := hv
    have I1 : Inv X pins sg H { s with heap := h', toks := tk } := I.turned (fun b o hb e => kk b o (by simpa using hb) e) f0 f1 f3 f4 f5
    obtain ⟨o, e, cc, d⟩ := id st'
    exact ⟨_, rfl, go_of (s := { s with heap := h', toks := tk }) (n := nm) e cc d hnm ⟨.str ⟨#[c]⟩, H, I1, ⟨u, rfl⟩, ⟨rfl, c, hcv, rfl⟩, ⟨hg, st'⟩, fun b hb => (hf b hb).1⟩⟩
  done := by
    intro X hP hw hK hc i pins s sg H E I hf st hg
    subst hP hw hK
    have hg : z.cps.size ≤ i := hg
    have hi : i = z.cps.size := Nat.le_antisymm st.1 hg
    subst hi
    obtain ⟨f0, f1, f2, f3, f4, f5⟩ := hf it (by simp)
    exact (W X.A (I.ok.hd hc)).done s _ _ st.2 fun h' tk kk => ⟨rfl, I.turned (fun b o hb e => kk b o (by simpa using hb) e) f0 f1 f3 f4 f5⟩
  self := fun A i s Q E st h => hself A i s Q E st.2 h
noncomputable def iStr (tl : TE) : TI := fun sg H R => tl sg H fun x H1 => ∃ z, x = .str z ∧ R (Its z) H1
theorem pi_str {tg l : Expr} {tl : TE} (hl : PE X l tl) : PI X tg l (iStr tl) := by
  intro pins s sg H R I h
  refine thn (hl pins s sg H _ I h) fun v s1 ⟨x, H1, I1, r1, q1⟩ => ?_
  obtain ⟨z, rfl, q⟩ := q1
  obtain ⟨t, rfl⟩ := (show ∃ t, v = Value.str z t from r1)
  have fin : ∀ (o : Obj) (nm : String), o.cls = .type nm → o.data = .fields #[.str z t, .int 0 0] → ["enumerate", "zip", "dict_itemiterator", "dict_reverseitemiterator", "odict_iterator", "itertools.zip_longest", "itertools.pairwise"].contains nm = false → o.isFreed = false →
      (∀ A' : Around, A'.handled = none → Walks X.prog X.w A' s1.heap.objs.size [s1.heap.objs.size] [s1.heap.objs.size] z.cps.size (SignAt z) (fun i h => h.IsStrIter s1.heap.objs.size nm z t i)) →
      (∀ (A : Around) (i : Nat) (s : Shared) (Q : Value → Shared → Prop) (E : Value → Shared → Prop), s.heap.IsStrIter s1.heap.objs.size nm z t i → Q (.ref s1.heap.objs.size) s → wpAny (model X.prog X.w) A (pyIter (.ref s1.heap.objs.size)) Q E s) →
      PIE X pins sg tg R (.ref s1.heap.objs.size) { s1 with heap := s1.heap.push o } := by
    intro o nm hc hd hnm hfr W hself
    refine ⟨s1.heap.objs.size, [s1.heap.objs.size], _, Its z, H1, rfl, I1.kept (t' := s1.toks) fun b o e => Heap.get?_push_of_some _ e, turn_str _ z t nm hnm W hself, ⟨Nat.zero_le _, o, Heap.get?_push_size _ hfr, hc, hd⟩, fun b hb => ?_, q⟩
    have e : b = s1.heap.objs.size := by simpa using hb
    subst e
    exact I1.fpOk (Nat.le_refl _) (I1.hok.fresh (Nat.le_refl _))
  cases ha : z.cps.all (· < 128)
  · exact wpAny_pyIter_wide ha (fin _ "str_iterator" rfl rfl (by decide) rfl (fun A' hA => Walks.strWide hA _ z t) fun A i s Q E st h => wpAny_pyIter_striter_wide st h)
  · exact wpAny_pyIter_ascii ha (fin _ "str_ascii_iterator" rfl rfl (by decide) rfl (fun A' hA => Walks.strAscii hA _ z t) fun A i s Q E st h => wpAny_pyIter_striter_ascii st h)
theorem si_str {target iter : Expr} {it' : E} (h : Sd g X iter it') : SdI g X target iter 3 it' := by
 refine ⟨_, pi_str h, fun rho st env sg H R s n q => ?_⟩
 refine ⟨rho, st, env, s, n, ?_⟩
 revert q
 cases evalE g.tab g.call it' env st with
 | bad => exact fun q => q
 | exc c st1 => exact fun q => q
 | ok d st1 =>
  rintro ⟨xs, p, e, q⟩ v H1 r1 k1 s1 rv
  cases d with
  | str z =>
   simp only [itOf] at e
   split at e
   · cases e
     refine ⟨z, rep_str.mp rv, q H1 r1 _ k1 s1 ?_⟩
     intro rho st H kk s hst
     refine ⟨by show z.cps.size ≤ _; simp, fun i d hd => ?_⟩
     rw [List.getElem?_map] at hd
     cases ec : z.cps.toList[i]? with
     | none => rw [ec] at hd; cases hd
     | some c =>
      rw [ec] at hd; cases hd
      have hi : i < z.cps.size := by simpa using (List.getElem?_eq_some_iff.mp ec).1
      refine ⟨hi, fun x H' y => ⟨y.1, ?_⟩⟩
      obtain ⟨_, c2, e2, rfl⟩ := y
      have : c2 = c := by
       have e3 : z.cps.toList[i]? = some c2 := by simpa using e2
       rw [ec] at e3; cases e3; rfl
      rw [this]
      exact rep_str.mpr rfl
   · cases e
  | _ => cases e
end DD
namespace DD
open PySem PySem.Spec L2
open PyProof.Rows hiding St
variable {g : G} {X : Cx} {a b c : Expr} {a' b' c' : E} {pos : Pos} {rest es : List Expr} {es' : Es} {F : Nat}
theorem sd_pop0 {o v : Expr} {o' v' : E} {apos cpos : Pos} (hK : X.K = g.K) (ho : Sd g X o o') (hv : Sd g X v v') (hbase : attributeBase o "pop" X.env (eval o X.env) = eval o X.env := by rfl)
    (hfew : ((backTo cpos (starEach [v] X.env)).all (fun x => !x.1) && (backToKw cpos (keywordEach [] X.env)).all (fun x => x.1.isSome) && decide ([v].length + ([] : List Keyword).length + (if ([] : List Keyword).isEmpty then 0 else 1) < 30)) = true := by rfl)
    (hline : (apos.endLine == cpos.line) = true := by rfl) (hs : starEach [v] X.env = (false, eval v X.env) :: starEach [] X.env := by rfl) : Sd g X (.Call (.Attribute o "pop" apos) [v] [] cpos) (.mt .popI o' (.cons v' .nil)) :=
  pe_imp (pe_bm PySem.F.plainAttrs_list PySem.F.slot_list_pop PySem.F.type_list_pop mt_popAt ho (sdl_cons hv sdl_nil hs) hbase hfew hline hs rfl) fun sg H Q q => by
    obtain ⟨rho, st, env, s, n, q⟩ := q
    simp only [evalE] at q
    refine step s n q fun d st1 x H1 r1 k1 s1 n1 rp q1 => ?_
    split at q1
    · rename_i hl
      obtain ⟨m, xs, rfl, el⟩ := isLst_at hl
      obtain ⟨p, vs, hr, hH, rl⟩ := sto_lst s1 el
      obtain ⟨p2, hr2, rfl⟩ := rep_loc.mp rp
      rw [hr] at hr2; cases hr2
      refine ⟨.inl ⟨rfl, vs, SqL.of hH⟩, ?_⟩
      refine stepL s1 n1 q1 fun ds st2 ws H2 r2 k2 s2 n2 rps q2 => ?_
      match ds, q2 with
      | [.int i], q2 =>
        simp only [mtD] at q2
        split at q2
        · rename_i zs ez
          split at q2
          · rename_i y r
            split at q2
            · rename_i hi
              subst hi
              obtain ⟨w, rfl, rw1⟩ := repL1 rps
              obtain ⟨p3, us, hr3, hH3, rl3⟩ := sto_lst s2 ez
              rw [k2.at hr] at hr3; cases hr3
              simp only [RepL] at rl3
              obtain ⟨yv, t, rfl, ry, rt⟩ := rl3
              obtain ⟨k3, s3⟩ := s2.wrote (k2.at hr) ez hH3 rt
              refine ⟨p, yv :: t, 0, 0, yv, rfl, by rw [rep_int.mp rw1], hH3, by decide, by decide, ?_, rfl, ?_⟩
              · unfold seqIndex?
                simp
              · exact (show Post g rho H Q y _ from q2) _ _ r2 ((k1.trans k2).trans k3) s3 (ry.mono k3)
            · exact q2.elim
          · exact q2.elim
        · exact q2.elim
      | [], q2 => exact q2.elim
      | a1 :: _ :: _, q2 => cases a1 <;> exact q2.elim
      | [.non], q2 => exact q2.elim
      | [.bl _], q2 => exact q2.elim
      | [.loc _], q2 => exact q2.elim
      | [.str _], q2 => exact q2.elim
      | [.tup _], q2 => exact q2.elim
    · exact q1.elim
end DD
namespace DD
open PySem PySem.Spec L2
variable {g : G} {X : Cx} {pos apos cpos : Pos} {F : Nat} {a b c : Expr} {a' b' c' : E}
end DD
namespace DD
open PySem PySem.Spec L2
open PyProof.Rows hiding St RelV
variable {g : G} {X : Cx} {pos : Pos} {F : Nat}
end DD
namespace DD
open PySem PySem.Spec L2
open PyProof.Rows hiding St RelV
variable {g : G} {X : Cx} {pos pos' apos cpos : Pos} {F : Nat} {a b c : Expr} {a' b' c' : E}
abbrev RelY (x : D × Addr × V) (y : D × Addr × Value) : Prop := x.1 = y.1 ∧ x.2.1 = y.2.1 ∧ RelV x.2.2 y.2.2
noncomputable def nPut (xs : List (D × Addr × V)) (k : D) (q : Addr) (v : V) : List (D × Addr × V) := if (xs.any fun x => decide (x.1 = k)) = true then xs.map fun x => if x.1 = k then (x.1, x.2.1, v) else x else xs ++ [(k, q, v)]
theorem any_at {ys : List (D × Addr × Value)} {k : D} : (atKey ys k).isSome = ys.any fun y => decide (y.1 = k) := by
 induction ys with
 | nil => rfl
 | cons y t ih =>
  by_cases e : y.1 = k
  · simp [atKey, e]
  · simpa [atKey, e] using ih
theorem nput_rel {k : D} {q : Addr} {v : V} {u : Value} (rv : RelV v u) {xs : List (D × Addr × V)} {ys : List (D × Addr × Value)} (h : Paired RelY xs ys) : Paired RelY (nPut xs k q v) (storedH ys k q u) := by
 have ha : (xs.any fun x => decide (x.1 = k)) = ys.any fun y => decide (y.1 = k) := by
  induction h with
  | nil => rfl
  | cons p t ih => simp only [List.any_cons, ih, p.1]
 unfold nPut storedH
 rw [ha, any_at]
 split
 · clear ha
   rename_i hz
   clear hz
   induction h with
   | nil => exact .nil
   | @cons x y t r p q2 ih =>
    obtain ⟨p1, p2, p3⟩ := p
    refine .cons ?_ ih
    unfold putAt
    dsimp only
    by_cases e : x.1 = k
    · rw [if_pos e, if_pos (by rw [← p1]; exact e)]; exact ⟨p1, p2, rv⟩
    · rw [if_neg e, if_neg (by rw [← p1]; exact e)]; exact ⟨p1, p2, p3⟩
 · clear ha
   rename_i hz
   clear hz
   induction h with
   | nil => exact .cons ⟨rfl, rfl, rv⟩ .nil
   | cons p t ih => exact .cons p ih
theorem nd_back {w : World} (hw : w = X.w) {h : Heap} {p : Addr} {xs : List (D × Addr × V)} {ys : List (D × Addr × Value)} (hm : (p == sysModules) = false) (hz : xs.length ≤ sizeLine) (r : Paired RelY xs ys) (dd : h.DictOfH (nestKind X.prog X.w) p ys) : NDict w p xs h := by
 obtain ⟨o, es, ep, h1, h2, h3, h4, h6, h5⟩ := dd
 clear h6
 have e1 : xs.map (·.1) = ys.map (·.1) := by
  clear h4 h5 hz
  induction r with
  | nil => rfl
  | cons p t ih => rw [List.map_cons, List.map_cons, ih]; congr 1; exact p.1
 refine ⟨hm, hz, by rw [e1]; exact h5, o, es, ep, h1, h2, h3, ?_⟩
 rw [h4, hw]
 clear h4 h5 e1 hz
 induction r with
 | nil => exact .nil
 | @cons x y t r p q ih =>
  obtain ⟨p1, p2, p3⟩ := p
  rw [List.map_cons]
  exact .cons ⟨by rw [p1]; rfl, by rw [p2]; rfl, p3⟩ ih
theorem nd_local {w : World} {p : Addr} {xs : List (D × Addr × V)} : ∀ h1 h2 : Heap, NDict w p xs h1 → (∀ o, h1.get? p = some o → h2.get? p = some o) → NDict w p xs h2 := fun h1 h2 ⟨a, b, c, o, es, ep, e, r⟩ k => ⟨a, b, c, o, es, ep, k o e, r⟩
theorem nput_len (xs : List (D × Addr × V)) (k : D) (q : Addr) (v : V) : (nPut xs k q v).length ≤ xs.length + 1 := by
 unfold nPut; split <;> simp
theorem nv_len {rho : List Addr} {H : Hp} : ∀ {kvs : List (D × D)} {xs : List (D × Addr × V)}, NvRep g.K rho H kvs xs → kvs.length = xs.length
 | [], xs, h => by simp only [NvRep] at h; subst h; rfl
 | (x, d) :: r, xs, h => by
  simp only [NvRep] at h
  obtain ⟨b, v, t, rfl, _, _, _, q⟩ := h
  simp [nv_len q]
theorem nv_put {rho : List Addr} {H : Hp} {k y : D} {q : Addr} {v : V} (hk : keyN k = true) (rk : g.Rep rho H k (.ref q)) (ry : g.Rep rho H y v) {kvs : List (D × D)} {xs : List (D × Addr × V)} (h : NvRep g.K rho H kvs xs) : NvRep g.K rho H (dPut kvs k y) (nPut xs k q v) := by
 have ha : ∀ {kvs : List (D × D)} {xs : List (D × Addr × V)}, NvRep g.K rho H kvs xs → (kvs.any fun p => decide (p.1 = k)) = xs.any fun x => decide (x.1 = k) := by
  intro kvs
  induction kvs with
  | nil => intro xs h; simp only [NvRep] at h; subst h; rfl
  | cons p t ih =>
   intro xs h
   obtain ⟨x, d⟩ := p
   simp only [NvRep] at h
   obtain ⟨b, v, t2, rfl, _, _, _, q⟩ := h
   simp only [List.any_cons, ih q]
 have hmap : ∀ {kvs : List (D × D)} {xs : List (D × Addr × V)}, NvRep g.K rho H kvs xs → NvRep g.K rho H (kvs.map fun p => if p.1 = k then (p.1, y) else p) (xs.map fun x => if x.1 = k then (x.1, x.2.1, v) else x) := by
  intro kvs
  induction kvs with
  | nil => intro xs h; simp only [NvRep] at h; subst h; simp [NvRep]
  | cons p t ih =>
   intro xs h
   obtain ⟨x, d⟩ := p
   simp only [NvRep] at h
   obtain ⟨b, v2, t2, rfl, h1, h2, h3, q⟩ := h
   by_cases e : x = k
   · simp only [List.map_cons, if_pos e, NvRep]
     exact ⟨b, v, _, rfl, h1, h2, ry, ih q⟩
   · simp only [List.map_cons, if_neg e, NvRep]
     exact ⟨b, v2, _, rfl, h1, h2, h3, ih q⟩
 have hsn : ∀ {kvs : List (D × D)} {xs : List (D × Addr × V)}, NvRep g.K rho H kvs xs → NvRep g.K rho H (kvs ++ [(k, y)]) (xs ++ [(k, q, v)]) := by
  intro kvs
  induction kvs with
  | nil => intro xs h; simp only [NvRep] at h; subst h; simp only [List.nil_append, NvRep]; exact ⟨q, v, [], rfl, hk, rk, ry, rfl⟩
  | cons p t ih =>
   intro xs h
   obtain ⟨x, d⟩ := p
   simp only [NvRep] at h
   obtain ⟨b, v2, t2, rfl, h1, h2, h3, q⟩ := h
   simp only [List.cons_append, NvRep]
   exact ⟨b, v2, _, rfl, h1, h2, h3, ih q⟩
 unfold dPut nPut
 rw [ha h]
 split
 · exact hmap h
 · exact hsn h
theorem nd_put (hK : X.K = g.K) (hw : g.cls.w = X.w) (hu : X.A.units + 64 < cLine) {pins : List (Addr × Obj)} {sg : L2.St} {H : Hp} {s : Shared} {rho : List Addr} {p : Addr} {kvs : List (D × D)} {xs : List (D × Addr × V)} {k : D} {kv v : V} {uk uv : Value} {Q : Unit → Shared → Prop} {E : Value → Shared → Prop} (I : Inv X pins sg H s) (hH : H p = some (.ext (NDict g.cls.w p xs))) (nv : NvRep g.K rho H kvs xs) (rk : g.Rep rho H k kv) (hk : keyN k = true) (rkv : RelV kv uk) (rv : RelV v uv) (hl : kvs.length < sizeLine)
    (h : ∀ q s', kv = .ref q → Inv X pins sg (upd H p (.ext (NDict g.cls.w p (nPut xs k q v)))) s' → Q () s') : wpAny (model X.prog X.w) X.A (setItem (.ref p) uk uv) Q E s := by
  obtain ⟨q9, ik, rfl⟩ := rep_keyN hK I rk hk rkv
  have ekv : kv = .ref q9 := by
    cases k with
    | tup ds => obtain ⟨q, vs, rfl, _⟩ := rep_tup.mp rk; cases rkv; rfl
    | _ => cases hk
  obtain ⟨hm, hz, ys, pr, dd⟩ := nd_of hK hw I hH nv
  have hyl : ys.length = xs.length := (Paired.length pr).symm
  have hxl := nv_len nv
  refine wpAny_setItem_heap (knd := nestKind X.prog X.w) (by show X.A.units + 1 + 16 < cLine; omega) ik dd (fun h' dd' hs => h q9 _ ekv ?_) (by omega)
  have new := nd_back (X := X) hw hm (by have := nput_len xs k q9 v; omega) (nput_rel rv pr) dd'
  have he : ∃ q, h'.get? p = some q := let ⟨q, _, _, hq, _⟩ := dd'; ⟨q, hq⟩
  exact d_write I (by rw [hH]; exact True.intro) hs he ⟨new, he, nd_local⟩
noncomputable def putR (env : Env) (x kk y : D) (st : Sto) : Res Fl := match x with
 | .loc n => match dcnOf st n with
  | some kvs => if keyN kk = true ∧ kvs.length < sizeLine then .ok (.next env) (st.set n (.dcn (dPut kvs kk y))) else .bad
  | none => .bad
 | _ => .bad
theorem RepL.set {rho : List Addr} {H : Hp} {y : D} {v : V} : ∀ {ds : List D} {vs : List V} (i : Nat), g.Rep rho H y v → g.RepL rho H ds vs → g.RepL rho H (ds.set i y) (vs.set i v)
 | [], vs, i, _, r => by simp only [DD.RepL] at r; subst r; simp [DD.RepL]
 | d :: t, vs, 0, ry, r => by
  simp only [DD.RepL] at r
  obtain ⟨x, w, rfl, r1, r2⟩ := r
  simp only [List.set_cons_zero, DD.RepL]
  exact ⟨v, w, rfl, ry, r2⟩
 | d :: t, vs, i + 1, ry, r => by
  simp only [DD.RepL] at r
  obtain ⟨x, w, rfl, r1, r2⟩ := r
  simp only [List.set_cons_succ, DD.RepL]
  exact ⟨x, _, rfl, r1, RepL.set i ry r2⟩
theorem s_dput {o i value : Expr} {o' i' v' : E} (hK : X.K = g.K) (hw : g.cls.w = X.w) (hu : X.A.units + 64 < cLine) (ho : Sd g X o o') (hi : Sd g X i i') (hv : Sd g X value v') (hs : swapsWith value (some (.Subscript o i pos')) pos.line X.env = pure false := by rfl) :
    SdS g X F (.Assign [.Subscript o i pos'] value pos) (.dput o' i' v') := by
  intro pins s sg H D I h
  obtain ⟨rho, st, env, S, n, q⟩ := h
  have q : RQ g ((evalE g.tab g.call v' env st).bind fun y st => (evalE g.tab g.call o' env st).bind fun x st => (evalE g.tab g.call i' env st).bind fun kk st => putR env x kk y st) (PostF g rho H D) rho H := by
    simp only [execS] at q
    exact q
  refine wpAny_Assign_Subscript (thn (hv pins s sg H (fun v H1 => ∃ r1 st1 y, g.Keep rho H r1 H1 ∧ g.Sto r1 st1 H1 ∧ g.Env r1 H1 env sg ∧ g.Rep r1 H1 y v ∧ RQ g ((evalE g.tab g.call o' env st1).bind fun x st => (evalE g.tab g.call i' env st).bind fun kk st => putR env x kk y st) (PostF g rho H D) r1 H1) I
    (step S n q fun y st1 v H1 r1 k1 s1 n1 ry q1 => ⟨r1, st1, y, k1, s1, n1, ry, q1⟩)) fun r s1 ⟨v, H1, I1, rv, r1, st1, y, k1, S1, n1, ry, q1⟩ => ?_) hs
  refine thn (ho pins s1 sg H1 (fun w H2 => ∃ r2 st2 x, g.Keep r1 H1 r2 H2 ∧ g.Sto r2 st2 H2 ∧ g.Env r2 H2 env sg ∧ g.Rep r2 H2 x w ∧ RQ g ((evalE g.tab g.call i' env st2).bind fun kk st => putR env x kk y st) (PostF g rho H D) r2 H2) I1
    (step S1 n1 q1 fun x st2 w H2 r2 k2 s2 n2 rx q2 => ⟨r2, st2, x, k2, s2, n2, rx, q2⟩)) fun ov s2 ⟨w, H2, I2, rov, r2, st2, x, k2, S2, n2, rx, q2⟩ => ?_
  refine thn (hi pins s2 sg H2 (fun z H3 => ∃ r3 st3 kk, g.Keep r2 H2 r3 H3 ∧ g.Sto r3 st3 H3 ∧ g.Env r3 H3 env sg ∧ g.Rep r3 H3 kk z ∧ RQ g (putR env x kk y st3) (PostF g rho H D) r3 H3) I2
    (step S2 n2 q2 fun kk st3 z H3 r3 k3 s3 n3 rk q3 => ⟨r3, st3, kk, k3, s3, n3, rk, q3⟩)) fun iv s3 ⟨z, H3, I3, riv, r3, st3, kk, k3, S3, n3, rk, q3⟩ => ?_
  unfold putR at q3
  have ry3 := (ry.mono k2).mono k3
  have rx3 := rx.mono k3
  have kall := (k1.trans k2).trans k3
  cases x with
  | loc m =>
    obtain ⟨p, hp, rfl⟩ := rep_loc.mp rx3
    obtain rfl : ov = Value.ref p := rov
    simp only at q3
    cases e9 : dcnOf st3 m with
    | none => rw [e9] at q3; exact q3.elim
    | some kvs =>
      rw [e9] at q3
      simp only at q3
      split at q3
      · rename_i hk
        obtain ⟨p2, xs, h1, hc, h2, nv⟩ := sto_dcn S3 e9
        rw [hp] at h1; cases h1
        refine nd_put hK hw hu I3 h2 nv rk hk.1 riv rv hk.2 fun q s4 ez I4 => ?_
        subst ez
        obtain ⟨k4, S4⟩ := S3.wroteC (o := .ext (NDict g.cls.w p (nPut xs kk q v))) (c1 := .dcn (dPut kvs kk y)) hp hc rfl h2 ⟨fun _ => nofun, fun _ _ => nofun⟩ fun H4 eH k5 => ⟨_, eH, (nv_put hk.1 rk ry3 nv).mono k5⟩
        exact ⟨_, _, I4, (show PostF g rho H D (.next env) _ from q3) _ _ r3 (kall.trans k4) S4 (n3.mono k4)⟩
      · exact q3.elim
  | _ => exact q3.elim
theorem sd_dnewN (hw : g.cls.w = X.w) : Sd g X (.Dict [] [] pos) .dnewN := fun pins s sg H Q I h => by
 obtain ⟨rho, st, env, S, n, q⟩ := h
 simp only [evalE] at q
 have q : Post g rho H Q (.loc st.length) (st ++ [.dcn []]) := q
 have hp := I.hok.fresh (Nat.le_refl s.heap.objs.size)
 have new : NDict g.cls.w s.heap.objs.size [] (s.heap.push { cls := .type "dict", data := .dict #[] }) := ⟨beq_eq_false_iff_ne.mpr (Ne.symm (Nat.ne_of_lt I.big)), Nat.zero_le _, List.nodup_nil, _, #[], 0, Heap.get?_push_size _ rfl, ⟨rfl, rfl, rfl⟩, rfl, .nil⟩
 obtain ⟨k2, s2⟩ := S.laid hp (o := .ext (NDict g.cls.w s.heap.objs.size [])) (c := .dcn []) ⟨[], upd_same, by simp [NvRep]⟩
 exact wpAny_Dict_empty ⟨.ref s.heap.objs.size, _, I.laid (a := s.heap.objs.size) (o := .ext (NDict g.cls.w s.heap.objs.size [])) (t' := s.toks) (fun _ _ q => Heap.get?_push_of_some _ q) (Nat.le_refl _) ⟨new, ⟨_, Heap.get?_push_size _ rfl⟩, nd_local⟩, rfl, q (.ref s.heap.objs.size) _ _ k2 s2 (rep_loc.mpr ⟨_, by rw [← S.len]; simp, rfl⟩)⟩
end DD
namespace DD
open PySem PySem.Spec L2
open PyProof.Rows hiding St RelV
variable {g : G} {X : Cx} {pos : Pos} {F : Nat}
end DD
namespace DD
open PySem PySem.Spec L2
open PyProof.Rows hiding St RelV
variable {g : G} {X : Cx} {pos apos cpos : Pos} {F : Nat}
end DD
namespace DD
open PySem PySem.Spec L2
open PyProof.Rows hiding St RelV
section
variable {prog : Program} {w : World} {K : Type} [DecidableEq K] {knd : HeapKind prog w K} {A : Around} {E : Value → Shared → Prop} {s : Shared}
theorem nd_setDefault {d a : Addr} {xs : List (K × Addr × Value)} {k : K} {v : Value} {Q : Value → Shared → Prop} (hu : knd.room A) (hkey : knd.is s.heap k a) (hm : s.heap.DictOfH knd d xs) (hsz : xs.length ≤ sizeLine)
    (h1 : ∀ p, atKey xs k = some p → Q p.2 { s with toks := s.toks + knd.draws k })
    (h2 : atKey xs k = none → ∀ h', h'.DictOfH knd d (storedH xs k a v) → Heap.SameBut d s.heap h' → Q v { s with heap := h', toks := s.toks + knd.draws k }) :
    wpAny (model prog w) A (dictSetDefault d (.ref a) v) Q E s := by
  obtain ⟨o, es, ep, ho, hc, hd, he, his, hn⟩ := hm
  unfold dictSetDefault
  try with_reducible refine wpAny_holding ?_
  refine wpAny_bind (knd.pyHash hu hkey ?_)
  refine wpAny_bind (wpAny_dictFind_heap (s := { s with toks := s.toks + knd.draws k }) hu hkey ho hd he his hn (fun hno => ?_) (fun j p hj => ?_))
  · have e0 := atKey_none_of_get hno
    have hnot : k ∉ xs.map (·.1) := not_mem_keys_of_get hno
    refine wpAny_bind (wpAny_rule (wpAny_bind (wpAny_updateDictKeys (hz := by have e := size_of_entries he; omega) (s := { s with toks := s.toks + knd.draws k }) ho hd (wpAny_pure (h2 e0 _ ⟨_, _, ep + 1, Heap.get?_update_self _ ho (Obj.isFreed_of_dict (Obj.data_mapDictKeys hd _)), hc.mapDictKeys _, Obj.data_mapDictKeys hd _, ?_, ?_, ?_⟩ (Heap.SameBut.update ..))))))
    · rw [storedH_new e0]
      simp [he, entryOfKey]
    · rw [storedH_new e0]
      intro x hx
      rcases List.mem_append.mp hx with hx | hx
      · exact knd.keeps (his x hx) ho hd (Heap.SameBut.update ..)
      · obtain rfl := List.mem_singleton.mp hx
        exact knd.keeps hkey ho hd (Heap.SameBut.update ..)
    · rw [storedH_new e0, List.map_append, List.nodup_append]
      refine ⟨hn, by simp, ?_⟩
      intro x hx y hy
      simp only [List.map_cons, List.map_nil, List.mem_singleton] at hy
      subst hy
      exact fun e => hnot (e ▸ hx)
  · refine wpAny_bind (wpAny_dictEntries (s := { s with toks := s.toks + knd.draws k }) ho hd ?_)
    rw [entry_at he j, hj]
    exact wpAny_bind (wpAny_rule (wpAny_pure (h1 p (atKey_of_get hn hj))))
theorem nd_meets_sdef (knd : HeapKind prog w K) (d a : Addr) (hd : (d == sysModules) = false) (v : Value) :
    MeetsIn prog w (Builtin.«dict.setdefault» ⟨[.ref d, .ref a, v], []⟩) (fun A R s => knd.room A.in1 ∧ ∃ k xs, knd.is s.heap k a ∧ s.heap.DictOfH knd d xs ∧ xs.length ≤ sizeLine ∧
      (∀ p, atKey xs k = some p → R (.ok (.ret p.2)) { s with toks := s.toks + knd.draws k }) ∧
      (atKey xs k = none → ∀ h', h'.DictOfH knd d (storedH xs k a v) → Heap.SameBut d s.heap h' → R (.ok (.ret v)) { s with heap := h', toks := s.toks + knd.draws k })) :=
  .of_wp fun A R s ⟨hu, k, xs, hkey, hm, hz, h1, h2⟩ => by
    unfold Builtin.«dict.setdefault»
    refine wpAny_bind ?_
    unfold Builtin.Dict.keyAndDefault
    refine wpAny_bind (wpAny_notOrdered_dict hm.typeIs ?_)
    refine wpAny_pure (a := (d, Value.ref a, some v)) ?_
    show wpAny _ _ (if (d == sysModules) = true then _ else (dictSetDefault d (.ref a) v >>= _)) _ _ s
    rw [hd, if_neg Bool.false_ne_true]
    exact wpAny_bind (nd_setDefault hu hkey hm hz (fun p hp => wpAny_pure ⟨_, rfl, h1 p hp⟩) fun hn h' hm' hs' => wpAny_pure ⟨_, rfl, h2 hn h' hm' hs'⟩)
end
variable {g : G} {X : Cx} {pos apos cpos : Pos} {o e f : Expr} {o' e' f' : E}
theorem rdyN {m : Mt} {st : Sto} {d : D} (hm : m = .getN ∨ m = .sdefN) (h : rdy m st d = true) : ∃ n kvs, d = .loc n ∧ dcnOf st n = some kvs := by
 cases d with
 | loc n =>
  have h : (dcnOf st n).isSome = true := by rcases hm with rfl | rfl <;> exact h
  exact ⟨n, _, rfl, (Option.isSome_iff_exists.mp h).choose_spec⟩
 | _ => rcases hm with rfl | rfl <;> cases h
theorem nd_at (hK : X.K = g.K) (hw : g.cls.w = X.w) {pins : List (Addr × Obj)} {sg : L2.St} {H : Hp} {s : Shared} {rho : List Addr} {st : Sto} {j : Nat} {p : Addr} {kvs : List (D × D)} (I : Inv X pins sg H s) (S : g.Sto rho st H) (hr : rho[j]? = some p) (e : dcnOf st j = some kvs) :
    ∃ xs ys, st[j]? = some (.dcn kvs) ∧ H p = some (.ext (NDict g.cls.w p xs)) ∧ NvRep g.K rho H kvs xs ∧ (p == sysModules) = false ∧ xs.length ≤ sizeLine ∧ Paired RelY xs ys ∧ s.heap.DictOfH (nestKind X.prog X.w) p ys := by
  obtain ⟨p2, xs, h1, hc, h2, nv⟩ := sto_dcn S e
  rw [hr] at h1; cases h1
  obtain ⟨hm, hz, ys, pr, dd⟩ := nd_of hK hw I h2 nv
  exact ⟨xs, ys, hc, h2, nv, hm, hz, pr, dd⟩
theorem sd_getN1 (hK : X.K = g.K) (hw : g.cls.w = X.w) (hu : X.A.units + 64 < cLine) (ho : Sd g X o o') (he : Sd g X e e') (m : M1 X o "get" apos e cpos) : Sd g X (.Call (.Attribute o "get" apos) [e] [] cpos) (.mt .getN o' (.cons e' .nil)) := by
 intro pins s sg H Q I h
 obtain ⟨rho, st, env, S, n, q⟩ := h
 simp only [evalE, evalEs, bind_ok, bind_assoc] at q
 refine wpAny_Call_method m.base m.few m.line PySem.F.plainAttrs_dict PySem.F.slot_dict_get PySem.F.type_dict_get (thn (ho pins s sg H (fun v H1 => ∃ r1 st1 j p kvs, v = .ref p ∧ r1[j]? = some p ∧ dcnOf st1 j = some kvs ∧ g.Keep rho H r1 H1 ∧ g.Sto r1 st1 H1 ∧ g.Env r1 H1 env sg ∧ RQ g ((evalE g.tab g.call e' env st1).bind fun y st => mtD .getN (.loc j) [y] st) (Post g rho H Q) r1 H1) I (step S n q fun d st1 x H1 r1 k1 s1 n1 rp q1 => ?_)) fun u s1 ⟨x, H1, I1, rx, r1, st1, j, p, kvs, ex, hr, ed, k1, S1, n1, q1⟩ => ?_)
 · split at q1
   · rename_i hl
     obtain ⟨j, kvs, rfl, ed⟩ := rdyN (.inl rfl) hl
     obtain ⟨p, hr, rfl⟩ := rep_loc.mp rp
     exact ⟨r1, st1, j, p, kvs, rfl, hr, ed, k1, s1, n1, q1⟩
   · exact q1.elim
 subst ex
 obtain rfl : u = Value.ref p := rx
 obtain ⟨xs, ys, _, _, _, _, _, _, ob, es, ep, h1, h2, _⟩ := nd_at hK hw I1 S1 hr ed
 refine ⟨⟨ob, h1, h2.1⟩, fun a e => (by cases e; exact ⟨ob, h1, h2.2.1⟩), ?_⟩
 rw [m.trees]
 refine Calls.callWith_builtin rfl (Calls.evalArgs_plain (Calls.spliced_cons (thn (he pins s1 sg H1 (fun w H2 => ∃ r2 st2 y, g.Keep r1 H1 r2 H2 ∧ g.Sto r2 st2 H2 ∧ g.Rep r2 H2 y w ∧ RQ g (mtD .getN (.loc j) [y] st2) (Post g rho H Q) r2 H2) I1 (step S1 n1 q1 fun y st2 w H2 r2 k2 s2 n2 ry q2 => ⟨r2, st2, y, k2, s2, ry, q2⟩)) fun iv s2 ⟨w, H2, I2, riv, r2, st2, y, k2, S2, ry, q2⟩ => Calls.spliced_nil ?_)))
 simp only [mtD] at q2
 split at q2
 · rename_i kvs2 ed2
   split at q2
   · rename_i hk
     obtain ⟨xs2, ys2, _, _, nv, hm, hz, pr, dd⟩ := nd_at hK hw I2 S2 (k2.at hr) ed2
     obtain ⟨q9, ik, rfl⟩ := rep_keyN hK I2 ry hk riv
     obtain ⟨l1, l2⟩ := nv_look (k := y) nv pr
     have q2 : Post g rho H Q ((dLook kvs2 y).getD .non) st2 := q2
     refine call_meetsIn PySem.F.slot_dict_get dd.typeIs PySem.F.entry_dict_get (PySem.F.args_dict_get_2 _ _) (meetsH_dict_get (nestKind X.prog X.w) p q9 hm) ⟨by show X.A.units + 1 + 16 < cLine; omega, y, ys2, ik, dd, ?_⟩
     cases z : dLook kvs2 y with
     | none => rw [z] at q2; rw [l2 z]; exact ⟨.non, H2, I2.tok _, rfl, q2 _ H2 r2 (k1.trans k2) S2 (rep_non.mpr rfl)⟩
     | some d => rw [z] at q2; obtain ⟨q', v, u', e1, e2, e3⟩ := l1 d z; rw [e1]; exact ⟨v, H2, I2.tok _, e2, q2 _ H2 r2 (k1.trans k2) S2 e3⟩
   · exact q2.elim
 · exact q2.elim
theorem sd_nd2 {nm : Str} {id : String} {k : Mt} (hk : k = .getN ∨ k = .sdefN) (slot : Slot "dict" nm id) (hty : typeOf (.builtin id) = pure (.type "method_descriptor")) (hK : X.K = g.K) (hw : g.cls.w = X.w) (ho : Sd g X o o') (he : Sd g X e e') (hf : Sd g X f f') (m : M2 X o nm apos e f cpos)
    (hrun : ∀ {pins : List (Addr × Obj)} {s : Shared} {sg : L2.St} {H H0 : Hp} {rho r0 : List Addr} {st : Sto} {Q : VK} {j : Nat} {p : Addr} {y z : D} {w1 w2 : V} {u1 u2 : Value}, Inv X pins sg H s → g.Sto rho st H → rho[j]? = some p → g.Keep r0 H0 rho H → g.Rep rho H y w1 → g.Rep rho H z w2 → RelV w1 u1 → RelV w2 u2 → RQ g (mtD k (.loc j) [y, z] st) (Post g r0 H0 Q) rho H → wpAny (model X.prog X.w) X.A (call (.builtin id) [.ref p, u1, u2]) (EP X pins sg Q) X.xe s) :
    Sd g X (.Call (.Attribute o nm apos) [e, f] [] cpos) (.mt k o' (.cons e' (.cons f' .nil))) := by
  intro pins s sg H Q I h
  obtain ⟨rho, st, env, S, n, q⟩ := h
  simp only [evalE, evalEs, bind_ok, bind_assoc] at q
  refine wpAny_Call_method m.base m.few m.line PySem.F.plainAttrs_dict slot hty (thn (ho pins s sg H (fun v H1 => ∃ r1 st1 j p kvs, v = .ref p ∧ r1[j]? = some p ∧ dcnOf st1 j = some kvs ∧ g.Keep rho H r1 H1 ∧ g.Sto r1 st1 H1 ∧ g.Env r1 H1 env sg ∧ RQ g ((evalE g.tab g.call e' env st1).bind fun y st => (evalE g.tab g.call f' env st).bind fun z st => mtD k (.loc j) [y, z] st) (Post g rho H Q) r1 H1) I (step S n q fun d st1 x H1 r1 k1 s1 n1 rp q1 => ?_)) fun u s1 ⟨x, H1, I1, rx, r1, st1, j, p, kvs, ex, hr, ed, k1, S1, n1, q1⟩ => ?_)
  · split at q1
    · rename_i hl
      obtain ⟨j, kvs, rfl, ed⟩ := rdyN hk hl
      obtain ⟨p, hr, rfl⟩ := rep_loc.mp rp
      exact ⟨r1, st1, j, p, kvs, rfl, hr, ed, k1, s1, n1, q1⟩
    · exact q1.elim
  subst ex
  obtain rfl : u = Value.ref p := rx
  obtain ⟨xs, ys, _, _, _, _, _, _, ob, es, ep, h1, h2, _⟩ := nd_at hK hw I1 S1 hr ed
  refine ⟨⟨ob, h1, h2.1⟩, fun a e => (by cases e; exact ⟨ob, h1, h2.2.1⟩), ?_⟩
  rw [m.trees]
  refine Calls.callWith_builtin rfl (Calls.evalArgs_plain (Calls.spliced_cons (thn (he pins s1 sg H1 (fun w H2 => ∃ r2 st2 y, g.Keep r1 H1 r2 H2 ∧ g.Sto r2 st2 H2 ∧ g.Env r2 H2 env sg ∧ g.Rep r2 H2 y w ∧ RQ g ((evalE g.tab g.call f' env st2).bind fun z st => mtD k (.loc j) [y, z] st) (Post g rho H Q) r2 H2) I1 (step S1 n1 q1 fun y st2 w H2 r2 k2 s2 n2 ry q2 => ⟨r2, st2, y, k2, s2, n2, ry, q2⟩)) fun iv s2 ⟨w, H2, I2, riv, r2, st2, y, k2, S2, n2, ry, q2⟩ =>
    Calls.spliced_cons (thn (hf pins s2 sg H2 (fun w H3 => ∃ r3 st3 z, g.Keep r2 H2 r3 H3 ∧ g.Sto r3 st3 H3 ∧ g.Rep r3 H3 z w ∧ RQ g (mtD k (.loc j) [y, z] st3) (Post g rho H Q) r3 H3) I2 (step S2 n2 q2 fun z st3 w H3 r3 k3 s3 n3 rz q3 => ⟨r3, st3, z, k3, s3, rz, q3⟩)) fun fv s3 ⟨w2, H3, I3, rfv, r3, st3, z, k3, S3, rz, q3⟩ => Calls.spliced_nil ?_))))
  exact hrun I3 S3 (k3.at (k2.at hr)) ((k1.trans k2).trans k3) (ry.mono k3) rz riv rfv q3
theorem sd_getN2 (hK : X.K = g.K) (hw : g.cls.w = X.w) (hu : X.A.units + 64 < cLine) (ho : Sd g X o o') (he : Sd g X e e') (hf : Sd g X f f') (m : M2 X o "get" apos e f cpos) : Sd g X (.Call (.Attribute o "get" apos) [e, f] [] cpos) (.mt .getN o' (.cons e' (.cons f' .nil))) :=
 sd_nd2 (.inl rfl) PySem.F.slot_dict_get PySem.F.type_dict_get hK hw ho he hf m fun {pins s sg H H0 rho r0 st Q j p y z w1 w2 u1 u2} I S hr k0 ry rz r1 r2 q2 => by
  simp only [mtD] at q2
  split at q2
  · rename_i kvs2 ed2
    split at q2
    · rename_i hk
      obtain ⟨xs2, ys2, _, _, nv, hm, hz, pr, dd⟩ := nd_at hK hw I S hr ed2
      obtain ⟨q9, ik, rfl⟩ := rep_keyN hK I ry hk r1
      obtain ⟨l1, l2⟩ := nv_look (k := y) nv pr
      have q2 : Post g r0 H0 Q ((dLook kvs2 y).getD z) st := q2
      refine call_meetsIn PySem.F.slot_dict_get dd.typeIs PySem.F.entry_dict_get (PySem.F.args_dict_get_3 _ _ _) (meetsH_dict_get_default (nestKind X.prog X.w) p q9 hm u2) ⟨by show X.A.units + 1 + 16 < cLine; omega, y, ys2, ik, dd, ?_⟩
      cases zz : dLook kvs2 y with
      | none => rw [zz] at q2; rw [l2 zz]; exact ⟨w2, H, I.tok _, r2, q2 _ H rho k0 S rz⟩
      | some d => rw [zz] at q2; obtain ⟨q', v, u', e1, e2, e3⟩ := l1 d zz; rw [e1]; exact ⟨v, H, I.tok _, e2, q2 _ H rho k0 S e3⟩
    · exact q2.elim
  · exact q2.elim
theorem sd_sdefN (hK : X.K = g.K) (hw : g.cls.w = X.w) (hu : X.A.units + 64 < cLine) (ho : Sd g X o o') (he : Sd g X e e') (hf : Sd g X f f') (m : M2 X o "setdefault" apos e f cpos) : Sd g X (.Call (.Attribute o "setdefault" apos) [e, f] [] cpos) (.mt .sdefN o' (.cons e' (.cons f' .nil))) :=
 sd_nd2 (.inr rfl) PySem.F.slot_dict_setdefault PySem.F.type_dict_setdefault hK hw ho he hf m fun {pins s sg H H0 rho r0 st Q j p y z w1 w2 u1 u2} I S hr k0 ry rz r1 r2 q2 => by
  simp only [mtD] at q2
  split at q2
  · rename_i kvs2 ed2
    split at q2
    · rename_i hk
      obtain ⟨xs2, ys2, hc, hH, nv, hm, hz, pr, dd⟩ := nd_at hK hw I S hr ed2
      have hyl : ys2.length = xs2.length := (Paired.length pr).symm
      have hxl := nv_len nv
      have ekv : ∃ q9, w1 = .ref q9 := by
       cases y with
       | tup ds => obtain ⟨q, vs, rfl, _⟩ := rep_tup.mp ry; exact ⟨q, rfl⟩
       | _ => cases hk.1
      obtain ⟨q8, rfl⟩ := ekv
      obtain ⟨q9, ik, e9⟩ := rep_keyN hK I ry hk.1 r1
      cases r1; cases e9
      obtain ⟨l1, l2⟩ := nv_look (k := y) nv pr
      refine call_meetsIn PySem.F.slot_dict_setdefault dd.typeIs PySem.F.entry_dict_setdefault (PySem.F.args_dict_setdefault_3 _ _ _) (nd_meets_sdef (nestKind X.prog X.w) p q8 hm u2) ⟨by show X.A.units + 1 + 16 < cLine; omega, y, ys2, ik, dd, by omega, fun pp hp => ?_, fun hn h' dd' hs => ?_⟩
      · cases zz : dLook kvs2 y with
        | none => rw [l2 zz] at hp; cases hp
        | some d =>
         rw [zz] at q2; obtain ⟨q', v, u', e1, e2, e3⟩ := l1 d zz
         rw [e1] at hp; cases hp
         exact ⟨v, H, I.tok _, e2, (show Post g r0 H0 Q d st from q2) _ H rho k0 S e3⟩
      · cases zz : dLook kvs2 y with
        | some d => obtain ⟨q', v, u', e1, e2, e3⟩ := l1 d zz; rw [e1] at hn; cases hn
        | none =>
         rw [zz] at q2
         obtain ⟨k4, S4⟩ := S.wroteC (o := .ext (NDict g.cls.w p (nPut xs2 y q8 w2))) (c1 := .dcn (dPut kvs2 y z)) hr hc rfl hH ⟨fun _ => nofun, fun _ _ => nofun⟩ fun H4 eH k5 => ⟨_, eH, (nv_put hk.1 ry rz nv).mono k5⟩
         have new := nd_back (X := X) hw hm (by have := nput_len xs2 y q8 w2; omega) (nput_rel r2 pr) dd'
         have he : ∃ q, h'.get? p = some q := let ⟨q, _, _, hq, _⟩ := dd'; ⟨q, hq⟩
         exact ⟨w2, upd H p (.ext (NDict g.cls.w p (nPut xs2 y q8 w2))), d_write I (by rw [hH]; exact True.intro) hs he ⟨new, he, nd_local⟩, r2, (show Post g r0 H0 Q z _ from q2) _ _ rho (k0.trans k4) S4 (rz.mono k4)⟩
    · exact q2.elim
  · exact q2.elim
end DD
namespace DD
open PySem PySem.Spec L2
variable {tab : Nat → Ty → Option Bool} {call : Or}
theorem hev_var {i : Nat} : ∀ env st, evalT tab call (.var i) env st = (evalE tab call (.var i) env st).bind fun d st => match truth st d with | some b => .ok b st | none => .bad := fun env st => by
 simp only [evalT, evalE]
 cases getV env i <;> rfl
theorem hev_bt {f : Bt} {es : Es} : ∀ env st, evalT tab call (.bt f es) env st = (evalE tab call (.bt f es) env st).bind fun d st => match truth st d with | some b => .ok b st | none => .bad := fun env st => by
 simp only [evalT, evalE]
 cases evalEs tab call es env st <;> rfl
end DD
namespace DD
open PySem
end DD
namespace DD
open PySem PySem.Spec L2
open PyProof.Rows hiding St RelV
variable {g : G} {X : Cx} {pos : Pos} {F : Nat}
noncomputable def isCF : NameKind → Bool
 | .cell => true
 | .free => true
 | _ => false
def SubC (cells : List (Str × Addr)) : List (Str × Addr) → Prop
 | [] => True
 | p :: l => cells.lookup p.1 = some p.2 ∧ SubC cells l
theorem subC_lk {cells : List (Str × Addr)} : ∀ {cl : List (Str × Addr)}, SubC cells cl → ∀ x c, cl.lookup x = some c → cells.lookup x = some c
 | [], _, x, c, h => by cases h
 | (k, a) :: l, ⟨h1, h2⟩, x, c, h => by
  rw [List.lookup_cons] at h
  split at h
  · rename_i e
    cases h; rw [eq_of_beq e]; exact h1
  · exact subC_lk h2 x c h
noncomputable def hasC (cl : List (Str × Addr)) (names : List (Str × NameKind)) : Bool := names.all fun p => !isCF p.2 || (cl.lookup p.1).isSome
theorem lk_mem {α : Type} : ∀ {l : List (Str × α)} {x : Str} {a : α}, l.lookup x = some a → (x, a) ∈ l
 | [], x, a, h => by cases h
 | (k, b) :: l, x, a, h => by
  rw [List.lookup_cons] at h
  split at h
  · rename_i e; cases h; rw [eq_of_beq e]; exact .head _
  · exact .tail _ (lk_mem h)
theorem clos_of {scope : Scope} {cl : List (Str × Addr)} (h1 : SubC X.env.cells cl) (h2 : hasC cl (relabel scope X.env).names = true) : Clos X scope cl := by
 refine ⟨subC_lk h1, fun x h => ?_⟩
 unfold hasC at h2
 rw [List.all_eq_true] at h2
 rcases h with h | h
 · have := h2 _ (lk_mem h)
   simp only [isCF, Bool.not_true, Bool.false_or] at this
   exact Option.isSome_iff_exists.mp this
 · have := h2 _ (lk_mem h)
   simp only [isCF, Bool.not_true, Bool.false_or] at this
   exact Option.isSome_iff_exists.mp this
def FvO (N XN : List Str) (cl : List (Str × Addr)) (n1 n2 : List (Str × NameKind)) (nl : Nat) : Nat → List Nat → Prop
 | _, [] => True
 | j, k :: l => (∃ x c, N[nl + j]? = some x ∧ XN[k]? = some x ∧ cl.lookup x = some c ∧ (n1.lookup x = some .cell ∨ n1.lookup x = some .free) ∧ (n2.lookup x = some .cell ∨ n2.lookup x = some .free)) ∧ FvO N XN cl n1 n2 nl (j + 1) l
theorem fvo_get {N XN : List Str} {cl : List (Str × Addr)} {n1 n2 : List (Str × NameKind)} {nl : Nat} : ∀ {l : List Nat} {a : Nat}, FvO N XN cl n1 n2 nl a l → ∀ j k, l[j]? = some k → ∃ x c, N[nl + (a + j)]? = some x ∧ XN[k]? = some x ∧ cl.lookup x = some c ∧ (n1.lookup x = some .cell ∨ n1.lookup x = some .free) ∧ (n2.lookup x = some .cell ∨ n2.lookup x = some .free)
 | [], a, _, j, k, h => by simp at h
 | k0 :: l, a, ⟨h1, h2⟩, 0, k, h => by
  simp only [List.getElem?_cons_zero, Option.some.injEq] at h
  subst h; exact h1
 | k0 :: l, a, ⟨h1, h2⟩, j + 1, k, h => by
  simp only [List.getElem?_cons_succ] at h
  obtain ⟨x, c, q⟩ := fvo_get h2 j k h
  refine ⟨x, c, ?_⟩
  rwa [show nl + (a + (j + 1)) = nl + (a + 1 + j) by omega]
theorem fv_of {N : List Str} {nl : Nat} {fv : List Nat} {scope : Scope} {cl : List (Str × Addr)} (h : FvO N X.N cl X.env.scope.names (relabel scope X.env).names nl 0 fv) :
    ∀ j k, fv[j]? = some k → ∃ x c, N[nl + j]? = some x ∧ X.N[k]? = some x ∧ cl.lookup x = some c ∧ (X.env.scope.names.lookup x = some .cell ∨ X.env.scope.names.lookup x = some .free) ∧ ((relabel scope X.env).names.lookup x = some .cell ∨ (relabel scope X.env).names.lookup x = some .free) := fun j k hj => by
  have := fvo_get h j k hj
  rwa [Nat.zero_add] at this
end DD
namespace DD
open PySem PySem.Spec L2
open PyProof.Rows hiding St RelV
variable {g : G} {X : Cx} {pos apos cpos p2 : Pos} {F : Nat} {a b c : Expr} {a' b' c' : E}
end DD
namespace DD
open PySem PySem.Spec L2
open PyProof.Rows hiding St RelV
open PySem.W (kdl_call kdl_values kdl_vals_eq kdl_dict)
variable {g : G} {X : Cx} {pos apos cpos p2 : Pos} {F : Nat} {a b c : Expr} {a' b' c' : E}
end DD
namespace DD
open PySem PySem.Spec
section
variable {pr : Program} {w : World} {A : Around} {Kt : Type} [DecidableEq Kt] {kn : KeyKind pr w Kt}
noncomputable def met (f : Nat → Kt) : Nat → List Kt
 | 0 => []
 | i + 1 => if f i ∈ met f i then met f i else met f i ++ [f i]
variable {R : Result → Shared → Prop} {I : Addr} {fp wr : List Addr} {G : Array GenState → Array GenState → Prop} {n : Nat} {P : Nat → Value → Prop} {St : Nat → Shared → Prop}
end
end DD
namespace DD
open PySem PySem.Spec
section
variable {pr : Program} {w : World} {A : Around} {Er : Value → Shared → Prop} {s : Shared} {Kt : Type} [DecidableEq Kt] {kn : KeyKind pr w Kt}
end
end DD
namespace DD
open PySem PySem.Spec L2
open PyProof.Rows hiding St RelV
variable {g : G} {X : Cx} {pos apos cpos p2 : Pos} {F : Nat} {a b c : Expr} {a' b' c' : E}
end DD
namespace DD
open PySem PySem.Spec L2
open PyProof.Rows hiding St RelV
section
variable {pr : Program} {w : World} {A : Around} {Er : Value → Shared → Prop}
end
variable {g : G} {X : Cx} {pos apos cpos p2 : Pos} {F : Nat} {a b c : Expr} {a' b' c' : E}
theorem sd_glob {x : Str} {d : D} {v : V} {u : Value} (hg : Gl X x) (hm : X.mg x = some u) (r : RelV v u) (hr : ∀ rho H, g.Rep rho H d v) (hd : (x == ("__debug__" : Str)) = false := by decide) : Sd g X (.Name x pos) (.cst d) :=
 pe_imp (pe_glob hg hm r hd) fun sg H Q q => by
  obtain ⟨rho, st, env, s, n, q⟩ := q
  simp only [evalE] at q
  exact (show Post g rho H Q d st from q) _ H rho (.refl _ _) s (hr rho H)
end DD
namespace DD
open PySem PySem.Spec L2
open PyProof.Rows hiding St RelV
variable {g : G} {X : Cx} {pos : Pos} {F : Nat}
theorem Inv.loose {pins : List (Addr × Obj)} {sg : L2.St} {H : Hp} {s : Shared} {C : Addr} {h' : Heap} (I : L2.Inv X pins sg H s) (f : FpOk X pins H C) (sb : Heap.SameBut C s.heap h') : L2.Inv X pins sg H { s with heap := h' } := by
 have nb : ∀ b : Addr, b ∉ [C] → b ≠ C := fun b z e => z (by rw [e]; simp)
 refine I.call' (s' := { s with heap := h' }) (ch := [C]) rfl ⟨fun b o e n hb hx => (sb.2 b (nb b hx)).trans e, fun b o e n hb hx => ⟨o.slots, (sb.2 b (nb b hx)).trans e⟩, fun b o e n hx => n, fun b o e hx => ⟨o, (sb.2 b (nb b hx)).trans e⟩, fun _ _ z => z, fun _ _ _ z => z, fun b ps z => ⟨#[], by simpa using z⟩⟩ (fun b o e => ?_) I.bare fun b hb => ?_
 · refine (I.hok b o e).stay (fun c u hc' g' => (sb.2 c ?_).trans g') (fun _ h => h) fun _ _ h => h
   intro z
   rcases hc' with rfl | hc'
   · rw [z, f.1] at e; cases e
   · rw [z, f.1] at hc'; cases hc'
 · simp only [List.mem_singleton] at hb
   subst hb
   exact ⟨f.2.2.2.1, f.2.1, f.2.2.2.2.1, f.2.2.2.2.2⟩
theorem s_setC {elt iter target : Expr} {ifs : List Expr} {N : List Str} {nl : Nat} {fv tgs : List Nat} {one : Bool} {k : Nat} {scope : Scope} {x : Str} {i : Nat} {pos' spos : Pos} {cl : List (Str × Addr)} {it' elt' : E} {ifs' : Es} (hK : X.K = g.K) (hc : X.calm = true) (hkind : scope.kind = .function) (hcell : ∀ y ∈ scope.names, y.2 ≠ .cell)
    (hnames : ∀ y ∈ scope.names, y.2 = .local → scope.names.lookup y.1 = some .local) (hclos : closureFor scope X.env = pure cl) (C : Clos X scope cl) (hN : N.length = nl + fv.length)
    (hfv : ∀ j k, fv[j]? = some k → ∃ x c, N[nl + j]? = some x ∧ X.N[k]? = some x ∧ cl.lookup x = some c ∧ (X.env.scope.names.lookup x = some .cell ∨ X.env.scope.names.lookup x = some .free) ∧ ((relabel scope X.env).names.lookup x = some .cell ∨ (relabel scope X.env).names.lookup x = some .free))
    (htg : ∀ i ∈ tgs, i < nl) (hi : SdI g X target iter k it') (hg : ∀ L s0 H0 fp pn, PG (cxG X N scope cl L s0 H0 fp pn) target (tg g.K tgs one))
    (ht : ∀ L s0 H0 fp pn, PTs (cxG X N scope cl L s0 H0 fp pn) ifs (tIfs (g.with fun _ _ _ => False) ifs')) (he : ∀ L s0 H0 fp pn, Sd (g.with fun _ _ _ => False) (cxG X N scope cl L s0 H0 fp pn) elt elt')
    (hs : ∀ x, foldedSetIterable iter X.env x = pure x := by intro _; rfl)
    (hNd : X.N.Nodup) (hix : X.N[i]? = some x) (hx : X.env.scope.names.lookup x = some .local) (hsw : swapsWith (.ListComp elt [⟨target, iter, ifs, 0⟩] scope pos) (some (.Name x pos')) spos.line X.env = pure true := by rfl) :
    SdS g X F (.Assign [.Name x pos'] (.ListComp elt [⟨target, iter, ifs, 0⟩] scope pos) spos) (.set i (.comp k one nl tgs fv it' ifs' elt')) := by
  intro pins s sg H D I q
  have q : tE g (.comp k one nl tgs fv it' ifs' elt') sg H (fun v H1 => D.nx (sg.set i (some v)) H1) := by
    obtain ⟨rho, st, env, s, n, q⟩ := q
    refine ⟨rho, st, env, s, n, ?_⟩
    simp only [execS] at q
    revert q
    cases evalE g.tab g.call (.comp k one nl tgs fv it' ifs' elt') env st with
    | bad => exact fun q => q
    | exc c st1 => exact fun q => q
    | ok d st1 =>
      simp only [bind_ok]
      intro q v H1 rho1 k1 s1 rp
      split at q
      · exact (show PostF g rho H D (.next _) st1 from q) _ H1 rho1 k1 s1 ((n.mono k1).set i rp)
      · exact q.elim
  rw [exec_Assign_Name_used _ _ _ _ hsw]
  refine wpAny_bind (wpAny_standAt (wpAny_bind ?_))
  show wpAny _ _ (comprehension (.ListComp elt [⟨target, iter, ifs, 0⟩] scope pos) scope X.env (firstIterPos [⟨target, iter, ifs, 0⟩] pos) (newList []) (firstAsync [⟨target, iter, ifs, 0⟩]) (firstIter [⟨target, iter, ifs, 0⟩] X.env) (some (assign (.Name x pos') X.env)) >>= fun _ => pure ()) _ _ s
  refine wpAny_bind (wpAny_mono (compG_core (use := some (assign (.Name x pos') X.env)) (Qv := fun _ s' => ∃ sg' H', L2.Inv X pins sg' H' s' ∧ D.nx sg' H') hK hc hkind hcell hnames hclos C hN hfv htg hi hg ht he hs I q fun ac Cc H' s4 hns fp hI hq => ?_) (fun _ s5 h5 => wpAny_pure (wpAny_pure h5)) fun _ _ z => z)
  obtain ⟨m, hm⟩ := hns
  have I4 := hI s4.heap (Heap.SameBut.refl ..)
  show wpAny _ _ (assign (.Name x pos') X.env (.ref ac)) _ _ s4
  refine wpAny_assign_Name (store_ok2 (v := .ref ac) I4 hNd hix (.inl hx) rfl (fun s5 I5 hsb => ?_) (.inr hx))
  obtain ⟨a, sb, ha⟩ := hsb
  have na : Cc ≠ a := by
    rcases ha with z | z
    · rw [z]; exact fp.2.1
    · exact fun e => fp.2.2.2.2.1 x a z e.symm
  refine ⟨m, ?_, fun h' sb' => ⟨_, H', Inv.loose I5 fp sb', hq⟩⟩
  exact hm.at' fun o e => (sb.2 Cc na).trans e
end DD
namespace DD
open PySem PySem.Spec L2
open PyProof.Rows hiding St
theorem repl_ints {K : PySem.W.Frag} {rho : List Addr} {H : Hp} : ∀ ns : List Int, RepL K rho H (ns.map D.int) (ns.map V.int)
 | [] => by simp [RepL]
 | n :: r => by simp only [List.map_cons, RepL]; exact ⟨_, _, rfl, by simp [Rep], repl_ints r⟩
theorem sp_start {K : PySem.W.Frag} {cls : CW} {run : List D → Sto → Res D} {ns : List Int} {st : Sto} (e : run [.loc 0] [.frz (ns.map D.int)] = .ok (.bl true) st)
    (H : Hp) (a : Addr) (hO : Only H) (hS : SqL K H a (ns.map V.int)) : spD K cls 1 run [.ref a] H (fun v _ => v = .bl true) fun _ _ _ => False := by
  refine ⟨rfl, [a], [.frz (ns.map D.int)], [.loc 0], ⟨rfl, ?_, ?_⟩, ?_, ?_⟩
  · intro n k b c d h1 h2 h3 h4 t1 t2
    cases n with
    | zero => cases h3; cases t1
    | succ n => cases h3
  · intro n b c h1 h2
    cases n with
    | zero =>
      cases h1; cases h2
      refine ⟨ns.map V.int, ?_, repl_ints ns⟩
      rcases hS with h | h
      · rcases h with h | ⟨o, h⟩
        · rcases hO _ with z | ⟨o, xs, z⟩
          · rw [h] at z; cases z
          · rw [h] at z; cases z
        · exact .inl ⟨o, h⟩
      · exact .inr h
    | succ n => cases h1
  · simp [RepL, Rep]
  · rw [e]
    intro v H' rho' _ _ r
    simpa [Rep] using r
theorem cx_none {P : Program} {w : World} (H : Hp) (s : Shared) (e : Value) (s' : Shared) (h : CXd P w [] H s (fun _ _ _ => False) e s') : False := by
 obtain ⟨_, _, _, _, _, _, _, z⟩ := h
 exact z
end DD
namespace DD
open PySem PySem.Spec L2
open PyProof.Rows hiding St
variable {g : G} {X : Cx} {pos : Pos}
def TupAt (K : PySem.W.Frag) (mg : Str → Option Value) (x : Str) (vs : List V) : Prop := ∃ (a : Addr) (o : Obj) (its : Array Value) (n : Nat), mg x = some (.ref a) ∧ K.lookup a = some o ∧ o.cls = .type "tuple" ∧ o.data = .seq its n ∧ its.size ≤ sizeLine ∧ Vals vs its.toList
theorem sd_globT {x : Str} {ds : List D} {vs : List V} (hK : X.K = g.K) (hg : Gl X x) (h : TupAt X.K X.mg x vs) (hr : ∀ rho H, g.RepL rho H ds vs) (hd : (x == ("__debug__" : Str)) = false := by decide) : Sd g X (.Name x pos) (.cst (.tup ds)) := by
 obtain ⟨a, o, its, n, h1, h2, h3, h4, h5, h6⟩ := h
 refine sd_glob (v := .ref a) hg h1 rfl (fun rho H => rep_tup.mpr ⟨a, vs, rfl, .inr ⟨o, its, n, ?_, h3, h4, h5, h6⟩, hr rho H⟩) hd
 rw [← hK]; exact h2
end DD
namespace DD
open PySem L2
section
variable {t : Nat → Ty → Option Bool} {call : Or} {F : Nat} {env : DD.Env} {st : Sto}
theorem x_nil : execSs t call F .nil env st = .ok (.next env) st := by simp only [execSs]
theorem x_cons {s : S} {r : Ss} : execSs t call F (.cons s r) env st = (execS t call F s env st).bind fun f st => match f with
      | .next env' => execSs t call F r env' st
      | f => .ok f st := by simp only [execSs] <;> rfl
theorem x_set {i : Nat} {e : E} : execS t call F (.set i e) env st = (evalE t call e env st).bind fun d st => if i < env.length then .ok (.next (env.set i (some d))) st else .bad := by simp only [execS]
theorem x_unp {is : List Nat} {e : E} : execS t call F (.unp is e) env st = (evalE t call e env st).bind fun d st => match store is false d env with | some env' => .ok (.next env') st | none => .bad := by simp only [execS] <;> rfl
theorem x_if {c : E} {a b : Ss} : execS t call F (.ifS c a b) env st = (evalT t call c env st).bind fun x st => if x then execSs t call F a env st else execSs t call F b env st := by simp only [execS]
theorem x_ret {e : E} : execS t call F (.ret e) env st = (evalE t call e env st).bind fun d st => .ok (.ret d) st := by simp only [execS]
theorem x_ex {e : E} : execS t call F (.ex e) env st = (evalE t call e env st).bind fun d st => .ok (.next env) st := by simp only [execS]
theorem x_while {c : E} {b : Ss} : execS t call F (.whileS c b) env st = whileLoop (evalT t call c) (execSs t call F b) F env st := by simp only [execS]
end
section
variable {t : Nat → Ty → Option Bool} {call : Or} {F : Nat} {env : DD.Env} {st : Sto}
noncomputable def turn (t : Nat → Ty → Option Bool) (call : Or) (F : Nat) (tg : List Nat) (one : Bool) (b : Ss) (d : D) (env : DD.Env) (st : Sto) : Res Fl := match store tg one d env with | some env' => execSs t call F b env' st | none => .bad
theorem turn_at {tg : List Nat} {one : Bool} {b : Ss} {d : D} {env' : DD.Env} (h : store tg one d env = some env') : turn t call F tg one b d env st = execSs t call F b env' st := by unfold turn; rw [h]
theorem x_for {tg : List Nat} {one k : Bool} {it : E} {b : Ss} : execS t call F (.forS tg one k it b) env st = (evalE t call it env st).bind fun d st => match walkOf k st d with
      | some (xs, p) => forLoop xs p (turn t call F tg one b) xs env st
      | none => .bad := by simp only [execS] <;> rfl
theorem x_forR {tg : List Nat} {es : Es} {b : Ss} : execS t call F (.forR tg es b) env st = (evalEs t call es env st).bind fun ds st => match rngOf ds with
      | some xs => forLoop xs none (turn t call F tg true b) xs env st
      | none => .bad := by simp only [execS] <;> rfl
end
theorem for_keep {all : List D} {p : Option Nat} {body : D → DD.Env → Sto → Res Fl} {J : Nat → DD.Env → Sto → Prop} (hs : ∀ i env st, J i env st → stays st p all = true) :
    ∀ (xs : List D) (i : Nat) (env : DD.Env) (st : Sto), J i env st → (∀ (j : Nat) (d : D), xs[j]? = some d → ∀ env st, J (i + j) env st → ∃ env' st', body d env st = .ok (.next env') st' ∧ J (i + j + 1) env' st') →
    ∃ env' st', forLoop all p body xs env st = .ok (.next env') st' ∧ J (i + xs.length) env' st'
  | [], i, env, st, h, _ => ⟨env, st, by simp only [forLoop]; rw [if_pos (hs _ _ _ h)], h⟩
  | d :: r, i, env, st, h, ht => by
    obtain ⟨e1, s1, h1, h2⟩ := ht 0 d rfl env st h
    obtain ⟨e2, s2, h3, h4⟩ := for_keep hs r (i + 1) e1 s1 h2 fun j x hx env st hj => by
      have := ht (j + 1) x (by simpa using hx) env st (by rwa [show i + (j + 1) = i + 1 + j by omega])
      rwa [show i + (j + 1) + 1 = i + 1 + j + 1 by omega] at this
    refine ⟨e2, s2, ?_, by rwa [show i + (d :: r).length = i + 1 + r.length by simp; omega]⟩
    simp only [forLoop]
    rw [if_pos (hs _ _ _ h), h1, bind_ok]
    exact h3
theorem set_at {st : Sto} {n0 : Nat} {c : Cell} (h : st[n0]? = some c) (d : Cell) : (st.set n0 d)[n0]? = some d := by
 have : n0 < st.length := (List.getElem?_eq_some_iff.mp h).1
 simp [this]
noncomputable def turnC (t : Nat → Ty → Option Bool) (call : Or) (tg : List Nat) (one : Bool) (env : DD.Env) (ifs : Es) (elt : E) (d : D) (st : Sto) : Res (Option D) := match store tg one d env with
 | some env' => (evalIfs t call ifs env' st).bind fun b st => if b then (evalE t call elt env' st).bind fun y st => .ok (some y) st else .ok none st
 | none => .bad
theorem e_compAt {t : Nat → Ty → Option Bool} {call : Or} {env : DD.Env} {st st1 : Sto} {k nl : Nat} {one : Bool} {tg fv : List Nat} {it elt : E} {ifs : Es} {d : D} {xs : List D} {p : Option Nat} (h : evalE t call it env st = .ok d st1) (hi : itOf k st1 d = some (xs, p)) :
    evalE t call (.comp k one nl tg fv it ifs elt) env st = (compLoop xs p st1.length (turnC t call tg one (envIn nl fv env) ifs elt) xs (st1 ++ [.lst []])).bind fun _ st' => .ok (.loc st1.length) st' := by
  rw [evalE, h]
  simp only [bind_ok, hi]
  rfl
theorem comp_inv {all : List D} {p : Option Nat} {n0 : Nat} {body : D → Sto → Res (Option D)} {f : D → Option D} {J : Sto → Prop} (hs : ∀ st, J st → stays st p all = true) (hset : ∀ st ys, J st → J (st.set n0 (.lst ys))) :
    ∀ (xs ys : List D) (st : Sto), J st → st[n0]? = some (.lst ys) → ys.length + xs.length ≤ sizeLine →
    (∀ d ∈ xs, ∀ st ys, J st → st[n0]? = some (.lst ys) → ∃ st', body d st = .ok (f d) st' ∧ J st' ∧ st'[n0]? = some (.lst ys)) →
    ∃ st', compLoop all p n0 body xs st = .ok () st' ∧ J st' ∧ st'[n0]? = some (.lst (ys ++ xs.filterMap f))
  | [], ys, st, h, hy, _, _ => ⟨st, by simp only [compLoop]; rw [if_pos (hs _ h)], h, by simpa using hy⟩
  | d :: r, ys, st, h, hy, hl, hb => by
    obtain ⟨s1, e1, j1, y1⟩ := hb d List.mem_cons_self st ys h hy
    simp only [compLoop]
    rw [if_pos (hs _ h), e1]
    have hl2 : ys.length < sizeLine := by simp at hl; omega
    cases hf : f d with
    | none =>
      obtain ⟨s2, e2, j2, y2⟩ := comp_inv hs hset r ys s1 j1 y1 (by simp at hl ⊢; omega) fun x hx => hb x (List.mem_cons_of_mem _ hx)
      exact ⟨s2, e2, j2, by rw [List.filterMap_cons, hf]; exact y2⟩
    | some y =>
      obtain ⟨s2, e2, j2, y2⟩ := comp_inv hs hset r (ys ++ [y]) (s1.set n0 (.lst (ys ++ [y]))) (hset _ _ j1) (set_at y1 _) (by simp at hl ⊢; omega) fun x hx => hb x (List.mem_cons_of_mem _ hx)
      refine ⟨s2, ?_, j2, by rw [List.filterMap_cons, hf]; simpa using y2⟩
      simp only [y1, hl2, if_true]
      exact e2
def Fr (st st' : Sto) : Prop := ∀ j, j < st.length → st'[j]? = st[j]?
theorem Fr.refl (st : Sto) : Fr st st := fun _ _ => rfl
theorem Fr.app {st : Sto} (m : Sto) : Fr st (st ++ m) := fun j h => List.getElem?_append_left h
theorem Fr.at {st st' : Sto} (h : Fr st st') {j : Nat} {c : Cell} (e : st[j]? = some c) : st'[j]? = some c := by rw [h j (List.getElem?_eq_some_iff.mp e).1]; exact e
theorem Fr.len {st st' : Sto} (h : Fr st st') : st.length ≤ st'.length := by
 cases Nat.lt_or_ge st'.length st.length with
 | inr g => exact g
 | inl g =>
  have h1 := h st'.length g
  rw [List.getElem?_eq_none (Nat.le_refl _), List.getElem?_eq_getElem g] at h1
  cases h1
theorem Fr.trans {a b c : Sto} (h : Fr a b) (k : Fr b c) : Fr a c := fun j hj => (k j (Nat.lt_of_lt_of_le hj h.len)).trans (h j hj)
theorem Fr.set {a b : Sto} (h : Fr a b) {n : Nat} (hn : a.length ≤ n) (c : Cell) : Fr a (b.set n c) := fun j hj => by
 rw [List.getElem?_set_ne (by omega)]; exact h j hj
theorem Fr.lst {st st' : Sto} (h : Fr st st') {n : Nat} {xs : List D} (e : lstOf st n = some xs) : lstOf st' n = some xs := by
 unfold lstOf at e ⊢
 cases z : st[n]? with
 | none => rw [z] at e; cases e
 | some c => rw [h.at z]; rw [z] at e; exact e
section
variable {st : Sto}
theorem o_add {i j : Int} : opD .add (.int i) (.int j) st = .ok (.int (i + j)) st := by simp only [opD]
theorem o_sub {i j : Int} : opD .sub (.int i) (.int j) st = .ok (.int (i - j)) st := by simp only [opD]
theorem o_mul {i j : Int} (h : mulOk i j) : opD .mul (.int i) (.int j) st = .ok (.int (i * j)) st := by simp only [opD]; rw [if_pos h]
theorem o_fdiv {i j : Int} (h : divOk j) : opD .fdiv (.int i) (.int j) st = .ok (.int (i.fdiv j)) st := by simp only [opD]; rw [if_pos h]
theorem o_mod {i j : Int} (h : j ≠ 0) : opD .mod (.int i) (.int j) st = .ok (.int (i.fmod j)) st := by simp only [opD]; rw [if_pos h]
theorem o_pow {i j : Int} (h : powOk i j) : opD .pow (.int i) (.int j) st = .ok (.int (i ^ j.toNat)) st := by simp only [opD]; rw [if_pos h]
theorem o_addL {n m : Nat} {xs ys : List D} (hn : st[n]? = some (.lst xs)) (hm : st[m]? = some (.lst ys)) (h : xs.length + ys.length ≤ sizeLine) : opD .add (.loc n) (.loc m) st = .ok (.loc st.length) (st ++ [.lst (xs ++ ys)]) := by
 simp only [opD, hn, hm]; rw [if_pos h]
theorem m_eqi {i j : Int} : cmD .eq (.int i) (.int j) st = .ok (.bl (decide (i = j))) st := by simp [cmD, eqV, pyOf, PyData.eqv] <;> rfl
theorem m_nei {i j : Int} : cmD .ne (.int i) (.int j) st = .ok (.bl (!decide (i = j))) st := by simp [cmD, eqV, pyOf, PyData.eqv] <;> rfl
theorem m_lt {i j : Int} : cmD .lt (.int i) (.int j) st = .ok (.bl (decide (i < j))) st := by simp only [cmD]
theorem m_le {i j : Int} : cmD .le (.int i) (.int j) st = .ok (.bl (decide (i ≤ j))) st := by simp only [cmD]
theorem m_gt {i j : Int} : cmD .gt (.int i) (.int j) st = .ok (.bl (decide (j < i))) st := by simp only [cmD]
theorem b_intb {b : Bool} : btD .intB [.bl b] st = .ok (.int (if b then 1 else 0)) st := by simp only [btD]
theorem b_lenT {xs : List D} : btD .lenB [.tup xs] st = .ok (.int xs.length) st := by simp only [btD]
theorem b_lenL {n : Nat} {xs : List D} (h : lstOf st n = some xs) : btD .lenB [.loc n] st = .ok (.int xs.length) st := by simp only [btD, h]
theorem i_atT {i : Int} {xs : List D} {d : D} (e : L2.atI xs i = some d) : ixD (.tup xs) (.int i) st = .ok d st := by simp only [ixD, ixS, seqOf, atD, e]
theorem ix_T {i : Int} {xs : List D} : ixD (.tup xs) (.int i) st = match L2.atI xs i with | some d => .ok d st | none => .bad := by simp only [ixD, ixS, seqOf, atD] <;> rfl
theorem dct_lst {n : Nat} {xs : List D} (h : lstOf st n = some xs) : dctOf st n = none ∧ dcnOf st n = none := by
 unfold lstOf at h; unfold dctOf dcnOf
 cases z : st[n]? with
 | none => exact ⟨rfl, rfl⟩
 | some c => rw [z] at h; cases c <;> first | exact ⟨rfl, rfl⟩ | cases h
theorem i_atL {n : Nat} {i : Int} {xs : List D} {d : D} (h : lstOf st n = some xs) (e : L2.atI xs i = some d) : ixD (.loc n) (.int i) st = .ok d st := by
 simp only [ixD, (dct_lst h).1, (dct_lst h).2, ixS, seqOf, h, atD, e]
end
section
variable {t : Nat → Ty → Option Bool} {call : Or} {env : DD.Env} {st : Sto}
theorem e_var {i : Nat} : evalE t call (.var i) env st = match getV env i with | some d => .ok d st | none => .bad := by simp only [evalE] <;> rfl
theorem e_vr {i : Nat} {d : D} (h : getV env i = some d) : evalE t call (.var i) env st = .ok d st := by rw [e_var, h]
theorem e_cst {d : D} : evalE t call (.cst d) env st = .ok d st := by simp only [evalE]
end
theorem gg0 {st m : Sto} : (st ++ m)[st.length]? = m[0]? := by
 rw [List.getElem?_append_right (by omega)]; congr 1; omega
theorem py_ok {st : Sto} : ∀ {n m : Nat} {d : D}, okN n d = true → n ≤ m → pyOf st m d = some (pyN n d)
 | n, m, .int i, _, _ => by cases m <;> cases n <;> simp [pyOf, pyN]
 | n, m, .str x, h, _ => by
  have h2 : PyData.canLay0 (.str x) = true := by cases n <;> simpa [okN] using h
  cases m <;> cases n <;> simp [pyOf, pyN, h2]
 | 0, m, .tup ds, h, _ => by simp [okN] at h
 | n + 1, 0, .tup ds, _, h => by omega
 | n + 1, m + 1, .tup ds, h, hm => by
  have all : ∀ ds : List D, ds.all (okN n) = true → optAll (ds.map (pyOf st m)) = some (ds.map (pyN n)) := by
   intro ds
   induction ds with
   | nil => intro _ <;> rfl
   | cons d r ih =>
    intro h
    simp only [List.all_cons, Bool.and_eq_true] at h
    simp only [List.map_cons, py_ok h.1 (by omega : n ≤ m), optAll, ih h.2, Option.map_some]
  have h : ds.all (okN n) = true := by simpa [okN] using h
  simp only [pyOf, all ds h, Option.map_some, pyN]
 | n, m, .non, h, _ => by cases n <;> simp [okN] at h
 | n, m, .bl b, h, _ => by cases n <;> simp [okN] at h
 | n, m, .loc b, h, _ => by cases n <;> simp [okN] at h
theorem eqv_ok : ∀ {n : Nat} {x y : D}, okN n x = true → okN n y = true → PyData.eqv (pyN n x) (pyN n y) = decide (x = y) := by
 intro n
 induction n with
 | zero =>
  intro x y h1 h2
  cases x <;> simp [okN] at h1 <;> cases y <;> simp [okN] at h2 <;> simp [pyN, PyData.eqv] <;> (first | rfl | exact Bool.beq_eq_decide_eq _ _)
 | succ n ih =>
  intro x y h1 h2
  cases x with
  | int i => cases y <;> simp [okN] at h2 <;> simp [pyN, PyData.eqv] <;> rfl
  | str i => cases y <;> simp [okN] at h2 <;> simp [pyN, PyData.eqv] <;> rfl
  | tup ds =>
   cases y with
   | int i => simp [pyN, PyData.eqv]
   | str i => simp [pyN, PyData.eqv]
   | tup es =>
    have all : ∀ ds es : List D, ds.all (okN n) = true → es.all (okN n) = true → PyData.eqvAll (ds.map (pyN n)) (es.map (pyN n)) = decide (ds = es) := by
     intro ds
     induction ds with
     | nil => intro es _ _; cases es <;> simp [PyData.eqvAll]
     | cons d r ih2 =>
      intro es h1 h2
      cases es with
      | nil => simp [PyData.eqvAll]
      | cons e t =>
       simp only [List.all_cons, Bool.and_eq_true] at h1 h2
       simp only [List.map_cons, PyData.eqvAll, ih h1.1 h2.1, ih2 t h1.2 h2.2, List.cons.injEq, Bool.decide_and]
    simp only [pyN, PyData.eqv, all ds es (by simpa [okN] using h1) (by simpa [okN] using h2)]
    simp
   | _ => simp [okN] at h2
  | _ => simp [okN] at h1
theorem eqvL_ok {n : Nat} : ∀ ds es : List D, ds.all (okN n) = true → es.all (okN n) = true → PyData.eqvAll (ds.map (pyN n)) (es.map (pyN n)) = decide (ds = es)
 | [], es, _, _ => by cases es <;> simp [PyData.eqvAll]
 | d :: r, [], _, _ => by simp [PyData.eqvAll]
 | d :: r, e :: t, h1, h2 => by
  simp only [List.all_cons, Bool.and_eq_true] at h1 h2
  simp only [List.map_cons, PyData.eqvAll, eqv_ok h1.1 h2.1, eqvL_ok r t h1.2 h2.2, List.cons.injEq, Bool.decide_and]
theorem pyL_ok {st : Sto} {n m : Nat} (hm : n ≤ m) : ∀ ds : List D, ds.all (okN n) = true → optAll (ds.map (pyOf st m)) = some (ds.map (pyN n))
 | [], _ => rfl
 | d :: r, h => by
  simp only [List.all_cons, Bool.and_eq_true] at h
  simp only [List.map_cons, py_ok h.1 hm, optAll, pyL_ok hm r h.2, Option.map_some]
theorem any_ok {n : Nat} {a : D} (ha : okN n a = true) : ∀ xs : List D, xs.all (okN n) = true → ((xs.map (pyN n)).any fun y => PyData.eqv y (pyN n a)) = decide (a ∈ xs)
 | [], _ => by simp
 | d :: r, h => by
  simp only [List.all_cons, Bool.and_eq_true] at h
  simp only [List.map_cons, List.any_cons, eqv_ok h.1 ha, any_ok ha r h.2, List.mem_cons, Bool.decide_or]
  congr 1
  simp only [eq_comm]
section
variable {st : Sto} {n : Nat} {a b : D} {xs ys : List D}
theorem m_eqN (ha : okN 40 a = true) (hb : okN 40 b = true) : cmD .eq a b st = .ok (.bl (decide (a = b))) st := by
 simp only [cmD, eqV, py_ok ha (Nat.le_refl _), py_ok hb (Nat.le_refl _), eqv_ok ha hb]
theorem m_inT (ha : okN 40 a = true) (hx : xs.all (okN 40) = true) : cmD .inL a (.tup xs) st = .ok (.bl (decide (a ∈ xs))) st := by
 simp only [cmD, inD, inS, py_ok ha (Nat.le_refl _), py_ok (n := 41) (m := 41) (d := .tup xs) (by simpa [okN] using hx) (Nat.le_refl _), pyN, any_ok ha xs hx]
theorem eqV_L {l m : Nat} (h : lstOf st l = some xs) (k : lstOf st m = some ys) (hx : xs.all (okN 39) = true) (hy : ys.all (okN 39) = true) : eqV st (.loc l) (.loc m) = some (decide (xs = ys)) := by
 simp only [eqV, pyOf, h, k, Option.bind_some, pyL_ok (Nat.le_refl 39) xs hx, pyL_ok (Nat.le_refl 39) ys hy, Option.map_some, PyData.eqv, eqvL_ok xs ys hx hy]
theorem m_eqL {l m : Nat} (h : lstOf st l = some xs) (k : lstOf st m = some ys) (hx : xs.all (okN 39) = true) (hy : ys.all (okN 39) = true) : cmD .eq (.loc l) (.loc m) st = .ok (.bl (decide (xs = ys))) st := by
 simp only [cmD, eqV_L h k hx hy]
theorem m_neL {l m : Nat} (h : lstOf st l = some xs) (k : lstOf st m = some ys) (hx : xs.all (okN 39) = true) (hy : ys.all (okN 39) = true) : cmD .ne (.loc l) (.loc m) st = .ok (.bl (!decide (xs = ys))) st := by
 simp only [cmD, eqV_L h k hx hy]
end
theorem lst_at {st : Sto} {n : Nat} {xs : List D} (h : st[n]? = some (.lst xs)) : lstOf st n = some xs := by simp only [lstOf, h]
theorem okN_mono : ∀ {n m : Nat} {d : D}, n ≤ m → okN n d = true → okN m d = true
 | _, _, .int _, _, _ => by simp [okN]
 | n, m, .str x, _, h => by cases n <;> cases m <;> simpa [okN] using h
 | 0, _, .tup _, _, h => by simp [okN] at h
 | n + 1, 0, .tup ds, hm, _ => by omega
 | n + 1, m + 1, .tup ds, hm, h => by
  simp only [okN, List.all_eq_true] at h ⊢
  exact fun x hx => okN_mono (by omega) (h x hx)
 | n, _, .non, _, h => by cases n <;> simp [okN] at h
 | n, _, .bl _, _, h => by cases n <;> simp [okN] at h
 | n, _, .loc _, _, h => by cases n <;> simp [okN] at h
theorem Fr.keep {a b : Sto} (h : Fr a b) {n : Nat} {c : Cell} (e : a[n]? = some c) : b[n]? = some c := h.at e
theorem comp_fr {st0 : Sto} {all xs : List D} {p : Option Nat} {body : D → Sto → Res (Option D)} {f : D → Option D} (hl : xs.length ≤ sizeLine) (hs : ∀ s, Fr st0 s → stays s p all = true)
    (hb : ∀ d ∈ xs, ∀ s, Fr st0 s → ∃ s', body d s = .ok (f d) s' ∧ Fr s s') :
    ∃ st', compLoop all p st0.length body xs (st0 ++ [.lst []]) = .ok () st' ∧ Fr st0 st' ∧ st'[st0.length]? = some (.lst (xs.filterMap f)) := by
  obtain ⟨s', e, J, y⟩ := comp_inv (all := all) (p := p) (n0 := st0.length) (body := body) (f := f) (J := Fr st0) hs (fun s ys h => h.set (Nat.le_refl _) _) xs [] (st0 ++ [.lst []]) (.app _) (by simp) (by simpa using hl) (fun d hd s ys hJ hn => by
    obtain ⟨s', e, F⟩ := hb d hd s hJ
    exact ⟨s', e, hJ.trans F, F.at hn⟩)
  exact ⟨s', e, J, by simpa using y⟩
theorem fm_some {α β : Type} (g : α → β) (xs : List α) : xs.filterMap (fun x => some (g x)) = xs.map g := by
 induction xs with
 | nil => rfl
 | cons x r ih => simp [List.filterMap_cons, ih]
end DD
namespace DD
open PySem L2
def Wr {α : Type} (r : Res α) (Q : α → Sto → Prop) : Prop := ∃ a s, r = .ok a s ∧ Q a s
section
variable {α β : Type} {r : Res α} {Q P : α → Sto → Prop} {a : α} {s : Sto}
theorem wr_ok (h : Q a s) : Wr (.ok a s) Q := ⟨a, s, rfl, h⟩
theorem wr_of (e : r = .ok a s) (h : Q a s) : Wr r Q := ⟨a, s, e, h⟩
theorem Wr.imp (h : Wr r P) (g : ∀ a s, P a s → Q a s) : Wr r Q := by
 obtain ⟨a, s, e, p⟩ := h
 exact ⟨a, s, e, g a s p⟩
theorem wr_bind {R : β → Sto → Prop} {f : α → Sto → Res β} (h : Wr r fun a s => Wr (f a s) R) : Wr (r.bind f) R := by
 obtain ⟨a, s, rfl, p⟩ := h
 exact p
theorem wp_t {A B : Prop} (h : A) : ((true = true → A) ∧ (true = false → B)) := ⟨fun _ => h, fun h => by cases h⟩
theorem wp_f {A B : Prop} (h : B) : ((false = true → A) ∧ (false = false → B)) := ⟨(fun h => by cases h), fun _ => h⟩
end
section
variable {t : Nat → Ty → Option Bool} {call : Or} {F : Nat} {env : DD.Env} {st : Sto} {Q : D → Sto → Prop} {QL : List D → Sto → Prop} {QB : Bool → Sto → Prop} {QF : Fl → Sto → Prop}
theorem w_var {i : Nat} {d : D} (h : getV env i = some d) (q : Q d st) : Wr (evalE t call (.var i) env st) Q := ⟨d, st, e_vr h, q⟩
theorem w_cst {d : D} (q : Q d st) : Wr (evalE t call (.cst d) env st) Q := ⟨d, st, e_cst, q⟩
theorem w_nil (q : QL [] st) : Wr (evalEs t call .nil env st) QL := ⟨[], st, by rw [evalEs], q⟩
theorem w_cons {e : E} {es : Es} (h : Wr (evalE t call e env st) fun d s => Wr (evalEs t call es env s) fun ds s => QL (d :: ds) s) : Wr (evalEs t call (.cons e es) env st) QL := by
 rw [evalEs]
 exact wr_bind (h.imp fun d s h => wr_bind (h.imp fun ds s h => wr_ok h))
theorem w_inil (q : QL [] st) : Wr (evalIs t call .nil env st) QL := ⟨[], st, by rw [evalIs], q⟩
theorem w_icons {e : E} {es : Es} (h : Wr (evalE t call e env st) fun d s => ∃ i, d = .int i ∧ Wr (evalIs t call es env s) fun ds s => QL (.int i :: ds) s) : Wr (evalIs t call (.cons e es) env st) QL := by
 rw [evalIs]
 refine wr_bind (h.imp fun d s h => ?_)
 obtain ⟨i, rfl, h⟩ := h
 exact wr_bind (h.imp fun ds s h => wr_ok h)
theorem w_tup {es : Es} (h : Wr (evalEs t call es env st) fun ds s => ds.length ≤ sizeLine ∧ Q (.tup ds) s) : Wr (evalE t call (.tupE es) env st) Q := by
 rw [evalE]
 refine wr_bind (h.imp fun ds s h => ?_)
 rw [if_pos h.1]; exact wr_ok h.2
theorem w_lst {es : Es} (h : Wr (evalEs t call es env st) fun ds s => ds.length ≤ sizeLine ∧ Q (.loc s.length) (s ++ [.lst ds])) : Wr (evalE t call (.lstE es) env st) Q := by
 rw [evalE]
 refine wr_bind (h.imp fun ds s h => ?_)
 rw [if_pos h.1]; exact wr_ok h.2
theorem w_op {o : Op} {a b : E} (h : Wr (evalE t call a env st) fun x s => Wr (evalE t call b env s) fun y s => Wr (opD o x y s) Q) : Wr (evalE t call (.op o a b) env st) Q := by
 rw [evalE]
 exact wr_bind (h.imp fun _ _ h => wr_bind h)
theorem w_cm {o : Cm} {a b : E} (h : Wr (evalE t call a env st) fun x s => Wr (evalE t call b env s) fun y s => Wr (cmD o x y s) Q) : Wr (evalE t call (.cm o a b) env st) Q := by
 rw [evalE]
 exact wr_bind (h.imp fun _ _ h => wr_bind h)
theorem w_and {a b : E} (h : Wr (evalE t call a env st) fun x s => ∃ c, x = .bl c ∧ (c = true → Wr (evalE t call b env s) Q) ∧ (c = false → Q (.bl false) s)) : Wr (evalE t call (.andE a b) env st) Q := by
 rw [evalE]
 refine wr_bind (h.imp fun _ _ h => ?_)
 obtain ⟨c, rfl, h1, h2⟩ := h
 cases c with
 | true => exact h1 rfl
 | false => exact wr_ok (h2 rfl)
theorem w_or {a b : E} (h : Wr (evalE t call a env st) fun x s => ∃ c, x = .bl c ∧ (c = true → Q (.bl true) s) ∧ (c = false → Wr (evalE t call b env s) Q)) : Wr (evalE t call (.orE a b) env st) Q := by
 rw [evalE]
 refine wr_bind (h.imp fun _ _ h => ?_)
 obtain ⟨c, rfl, h1, h2⟩ := h
 cases c with
 | true => exact wr_ok (h1 rfl)
 | false => exact h2 rfl
theorem w_not {a : E} (h : Wr (evalE t call a env st) fun x s => ∃ c, x = .bl c ∧ Q (.bl (!c)) s) : Wr (evalE t call (.notE a) env st) Q := by
 rw [evalE]
 refine wr_bind (h.imp fun _ _ h => ?_)
 obtain ⟨c, rfl, h1⟩ := h
 exact wr_ok h1
theorem w_ifE {c a b : E} (h : Wr (evalT t call c env st) fun x s => (x = true → Wr (evalE t call a env s) Q) ∧ (x = false → Wr (evalE t call b env s) Q)) : Wr (evalE t call (.ifE c a b) env st) Q := by
 rw [evalE]
 refine wr_bind (h.imp fun x _ h => ?_)
 cases x with
 | true => exact h.1 rfl
 | false => exact h.2 rfl
theorem w_call {f : Nat} {es : Es} {dv : List D} (h : Wr (evalEs t call es env st) fun ds s => Wr (call f (ds ++ dv) s) Q) : Wr (evalE t call (.call f es dv) env st) Q := by
 rw [evalE]; exact wr_bind h
theorem w_bt {f : Bt} {es : Es} (h : Wr (evalEs t call es env st) fun ds s => Wr (btD f ds s) Q) : Wr (evalE t call (.bt f es) env st) Q := by
 rw [evalE]; exact wr_bind h
theorem w_ix {a b : E} (h : Wr (evalE t call a env st) fun x s => Wr (evalE t call b env s) fun y s => Wr (ixD x y s) Q) : Wr (evalE t call (.ix a b) env st) Q := by
 rw [evalE]
 exact wr_bind (h.imp fun _ _ h => wr_bind h)
theorem w_isi {a : E} {ty : Ty} (h : Wr (evalE t call a env st) fun x s => ∃ u c, tyOf s x = some u ∧ subT t u ty = some c ∧ Q (.bl c) s) : Wr (evalE t call (.isi a ty) env st) Q := by
 rw [evalE]
 refine wr_bind (h.imp fun x s h => ?_)
 obtain ⟨u, c, h1, h2, h3⟩ := h
 rw [h1, Option.bind_some, h2]; exact wr_ok h3
theorem w_dnewN (h : Q (.loc st.length) (st ++ [.dcn []])) : Wr (evalE t call .dnewN env st) Q := by rw [evalE]; exact wr_ok h
theorem w_sl {k : Nat} {a : E} {es : Es} (h : Wr (evalE t call a env st) fun x s => Wr (evalIs t call es env s) fun ds s => Wr (slD k x ds s) Q) : Wr (evalE t call (.sl k a es) env st) Q := by
 rw [evalE]
 exact wr_bind (h.imp fun _ _ h => wr_bind h)
theorem w_fld {c : Nat} {o : E} {f : Str} (h : Wr (evalE t call o env st) fun x s => ∃ n fs d, x = .loc n ∧ s[n]? = some (.ins c fs) ∧ fs.lookup f = some d ∧ Q d s) : Wr (evalE t call (.fld c o f) env st) Q := by
 rw [evalE]
 refine wr_bind (h.imp fun x s h => ?_)
 obtain ⟨n, fs, d, rfl, h1, h2, h3⟩ := h
 simp only [h1, h2, if_true]
 exact wr_ok h3
theorem w_mk {c f : Nat} {es : Es} (h : Wr (evalEs t call es env st) fun ds s => Wr (call f (.loc s.length :: ds) (s ++ [.ins c []])) fun r s' => r = .non ∧ Q (.loc s.length) s') : Wr (evalE t call (.mk c f es) env st) Q := by
 rw [evalE]
 refine wr_bind (h.imp fun ds s h => wr_bind (h.imp fun r s' h => ?_))
 obtain ⟨rfl, h⟩ := h
 exact wr_ok h
theorem w_meth {c f : Nat} {m : Str} {o : E} {es : Es} (h : Wr (evalE t call o env st) fun x s => ∃ n fs, x = .loc n ∧ s[n]? = some (.ins c fs) ∧ fs.lookup m = none ∧ Wr (evalEs t call es env s) fun ds s => Wr (call f (.loc n :: ds) s) Q) : Wr (evalE t call (.meth c f m o es) env st) Q := by
 rw [evalE]
 refine wr_bind (h.imp fun x s h => ?_)
 obtain ⟨n, fs, rfl, h1, h2, h3⟩ := h
 simp only [h1, h2, and_self, if_true]
 exact wr_bind h3
theorem w_mt {m : Mt} {o : E} {es : Es} (h : Wr (evalE t call o env st) fun x s => rdy m s x = true ∧ Wr (evalEs t call es env s) fun ds s => Wr (mtD m x ds s) Q) : Wr (evalE t call (.mt m o es) env st) Q := by
 rw [evalE]
 refine wr_bind (h.imp fun x s h => ?_)
 rw [if_pos h.1]; exact wr_bind h.2
theorem wt_and {a b : E} (h : Wr (evalT t call a env st) fun x s => (x = true → Wr (evalT t call b env s) QB) ∧ (x = false → QB false s)) : Wr (evalT t call (.andE a b) env st) QB := by
 rw [evalT]
 refine wr_bind (h.imp fun x _ h => ?_)
 cases x with
 | true => exact h.1 rfl
 | false => exact wr_ok (h.2 rfl)
theorem wt_or {a b : E} (h : Wr (evalT t call a env st) fun x s => (x = true → QB true s) ∧ (x = false → Wr (evalT t call b env s) QB)) : Wr (evalT t call (.orE a b) env st) QB := by
 rw [evalT]
 refine wr_bind (h.imp fun x _ h => ?_)
 cases x with
 | true => exact wr_ok (h.1 rfl)
 | false => exact h.2 rfl
theorem wt_not {a : E} (h : Wr (evalT t call a env st) fun x s => QB (!x) s) : Wr (evalT t call (.notE a) env st) QB := by
 rw [evalT]
 exact wr_bind (h.imp fun x _ h => wr_ok h)
theorem wt_var {i : Nat} {d : D} {b : Bool} (h : getV env i = some d) (hb : truth st d = some b) (q : QB b st) : Wr (evalT t call (.var i) env st) QB := by
 rw [evalT, h]; simp only [hb]; exact wr_ok q
theorem wt_cm {o : Cm} {a b : E} (h : Wr (evalE t call a env st) fun x s => Wr (evalE t call b env s) fun y s => Wr (cmD o x y s) fun d s => ∃ c, d = .bl c ∧ QB c s) : Wr (evalT t call (.cm o a b) env st) QB := by
 rw [evalT]
 refine wr_bind (h.imp fun _ _ h => wr_bind (h.imp fun _ _ h => wr_bind (h.imp fun d s h => ?_)))
 obtain ⟨c, rfl, h⟩ := h
 exact wr_ok h
theorem wt_call {f : Nat} {es : Es} {dv : List D} (h : Wr (evalEs t call es env st) fun ds s => Wr (call f (ds ++ dv) s) fun d s => ∃ c, truth s d = some c ∧ QB c s) : Wr (evalT t call (.call f es dv) env st) QB := by
 rw [evalT]
 refine wr_bind (h.imp fun _ _ h => wr_bind (h.imp fun d s h => ?_))
 obtain ⟨c, h1, h⟩ := h
 simp only [h1]
 exact wr_ok h
theorem wt_bt {f : Bt} {es : Es} (h : Wr (evalEs t call es env st) fun ds s => Wr (btD f ds s) fun d s => ∃ c, truth s d = some c ∧ QB c s) : Wr (evalT t call (.bt f es) env st) QB := by
 rw [evalT]
 refine wr_bind (h.imp fun _ _ h => wr_bind (h.imp fun d s h => ?_))
 obtain ⟨c, h1, h⟩ := h
 simp only [h1]
 exact wr_ok h
theorem wt_ix {a b : E} (h : Wr (evalE t call a env st) fun x s => Wr (evalE t call b env s) fun y s => Wr (ixD x y s) fun d s => ∃ c, truth s d = some c ∧ QB c s) : Wr (evalT t call (.ix a b) env st) QB := by
 rw [evalT]
 refine wr_bind (h.imp fun _ _ h => wr_bind (h.imp fun _ _ h => wr_bind (h.imp fun d s h => ?_)))
 obtain ⟨c, h1, h⟩ := h
 simp only [h1]
 exact wr_ok h
theorem wt_isi {a : E} {ty : Ty} (h : Wr (evalE t call a env st) fun x s => ∃ u c, tyOf s x = some u ∧ subT t u ty = some c ∧ QB c s) : Wr (evalT t call (.isi a ty) env st) QB := by
 rw [evalT]
 refine wr_bind (h.imp fun x s h => ?_)
 obtain ⟨u, c, h1, h2, h3⟩ := h
 rw [h1, Option.bind_some, h2]; exact wr_ok h3
theorem wi_nil (h : QB true st) : Wr (evalIfs t call .nil env st) QB := by rw [evalIfs]; exact wr_ok h
theorem wi_cons {c : E} {r : Es} (h : Wr (evalT t call c env st) fun x s => (x = true → Wr (evalIfs t call r env s) QB) ∧ (x = false → QB false s)) : Wr (evalIfs t call (.cons c r) env st) QB := by
 rw [evalIfs]
 refine wr_bind (h.imp fun x s h => ?_)
 cases x with
 | true => exact h.1 rfl
 | false => exact wr_ok (h.2 rfl)
def Kt (t : Nat → Ty → Option Bool) (call : Or) (F : Nat) (r : Ss) (Q : Fl → Sto → Prop) (f : Fl) (s : Sto) : Prop := match f with
 | .next env' => Wr (execSs t call F r env' s) Q
 | f => Q f s
theorem ws_nil (h : QF (.next env) st) : Wr (execSs t call F .nil env st) QF := ⟨_, _, x_nil, h⟩
theorem ws_cons {c : S} {r : Ss} (h : Wr (execS t call F c env st) (Kt t call F r QF)) : Wr (execSs t call F (.cons c r) env st) QF := by
 rw [x_cons]
 refine wr_bind (h.imp fun f s h => ?_)
 cases f <;> first | exact h | exact wr_ok h
theorem k_next {r : Ss} (h : Wr (execSs t call F r env st) QF) : Kt t call F r QF (.next env) st := h
theorem k_ret {r : Ss} {d : D} (h : QF (.ret d) st) : Kt t call F r QF (.ret d) st := h
theorem ws_set {i : Nat} {e : E} (h : Wr (evalE t call e env st) fun d s => i < env.length ∧ QF (.next (env.set i (some d))) s) : Wr (execS t call F (.set i e) env st) QF := by
 rw [x_set]
 refine wr_bind (h.imp fun d s h => ?_)
 rw [if_pos h.1]; exact wr_ok h.2
theorem ws_unp {is : List Nat} {e : E} (h : Wr (evalE t call e env st) fun d s => ∃ env', store is false d env = some env' ∧ QF (.next env') s) : Wr (execS t call F (.unp is e) env st) QF := by
 rw [x_unp]
 refine wr_bind (h.imp fun d s h => ?_)
 obtain ⟨env', h1, h⟩ := h
 simp only [h1]; exact wr_ok h
theorem ws_if {c : E} {a b : Ss} (h : Wr (evalT t call c env st) fun x s => (x = true → Wr (execSs t call F a env s) QF) ∧ (x = false → Wr (execSs t call F b env s) QF)) : Wr (execS t call F (.ifS c a b) env st) QF := by
 rw [x_if]
 refine wr_bind (h.imp fun x s h => ?_)
 cases x with
 | true => exact h.1 rfl
 | false => exact h.2 rfl
theorem ws_ret {e : E} (h : Wr (evalE t call e env st) fun d s => QF (.ret d) s) : Wr (execS t call F (.ret e) env st) QF := by
 rw [x_ret]; exact wr_bind (h.imp fun d s h => wr_ok h)
theorem ws_ex {e : E} (h : Wr (evalE t call e env st) fun d s => QF (.next env) s) : Wr (execS t call F (.ex e) env st) QF := by
 rw [x_ex]; exact wr_bind (h.imp fun d s h => wr_ok h)
theorem ws_setf {c : Nat} {o : E} {f : Str} {e : E} (h : Wr (evalE t call e env st) fun y s => Wr (evalE t call o env s) fun x s => ∃ n fs, x = .loc n ∧ s[n]? = some (.ins c fs) ∧ fs.length < 900 ∧ QF (.next env) (s.set n (.ins c (putFD f y fs)))) : Wr (execS t call F (.setf c o f e) env st) QF := by
 rw [execS]
 refine wr_bind (h.imp fun y s h => wr_bind (h.imp fun x s h => ?_))
 obtain ⟨n, fs, rfl, h1, h2, h3⟩ := h
 simp only [h1, h2, and_self, if_true]
 exact wr_ok h3
theorem ws_for {tg : List Nat} {one k : Bool} {it : E} {b : Ss} (h : Wr (evalE t call it env st) fun d s => ∃ xs p, walkOf k s d = some (xs, p) ∧ Wr (forLoop xs p (turn t call F tg one b) xs env s) QF) : Wr (execS t call F (.forS tg one k it b) env st) QF := by
 rw [x_for]
 refine wr_bind (h.imp fun d s h => ?_)
 obtain ⟨xs, p, h1, h⟩ := h
 simp only [h1]; exact h
theorem ws_forR {tg : List Nat} {es : Es} {b : Ss} (h : Wr (evalEs t call es env st) fun ds s => ∃ xs, rngOf ds = some xs ∧ Wr (forLoop xs none (turn t call F tg true b) xs env s) QF) : Wr (execS t call F (.forR tg es b) env st) QF := by
 rw [x_forR]
 refine wr_bind (h.imp fun d s h => ?_)
 obtain ⟨xs, h1, h⟩ := h
 simp only [h1]; exact h
theorem w_turn {tg : List Nat} {one : Bool} {b : Ss} {d : D} {env' : DD.Env} (h : store tg one d env = some env') (w : Wr (execSs t call F b env' st) QF) : Wr (turn t call F tg one b d env st) QF := by
 rw [turn_at h]; exact w
theorem w_loop {xs : List D} {p : Option Nat} {body : D → DD.Env → Sto → Res Fl} (J : Nat → DD.Env → Sto → Prop) (hs : ∀ i env st, J i env st → stays st p xs = true) (h0 : J 0 env st)
    (ht : ∀ (j : Nat) (d : D), xs[j]? = some d → ∀ env st, J j env st → Wr (body d env st) fun f s => ∃ env', f = .next env' ∧ J (j + 1) env' s)
    (q : ∀ env s, J xs.length env s → QF (.next env) s) : Wr (forLoop xs p body xs env st) QF := by
  obtain ⟨env', s, e, j⟩ := for_keep hs xs 0 env st h0 fun j d hd env st hj => by
    rw [Nat.zero_add] at hj
    obtain ⟨f, s, e, env', rfl, j⟩ := ht j d hd env st hj
    exact ⟨env', s, e, by rwa [Nat.zero_add]⟩
  rw [Nat.zero_add] at j
  exact ⟨_, _, e, q _ _ j⟩
theorem w_turnC {tg : List Nat} {one : Bool} {ifs : Es} {elt : E} {d : D} {env' : DD.Env} {QO : Option D → Sto → Prop} (h : store tg one d env = some env') (w : Wr (evalIfs t call ifs env' st) fun b s => (b = true → Wr (evalE t call elt env' s) fun y s => QO (some y) s) ∧ (b = false → QO none s)) : Wr (turnC t call tg one env ifs elt d st) QO := by
 unfold turnC
 simp only [h]
 refine wr_bind (w.imp fun b s h => ?_)
 cases b with
 | true => exact wr_bind ((h.1 rfl).imp fun y s h => wr_ok h)
 | false => exact wr_ok (h.2 rfl)
theorem w_comp {k nl : Nat} {one : Bool} {tg fv : List Nat} {it elt : E} {ifs : Es}
    (h : Wr (evalE t call it env st) fun d s => ∃ xs p, ∃ f : D → Option D, itOf k s d = some (xs, p) ∧ xs.length ≤ sizeLine ∧ (∀ s', Fr s s' → stays s' p xs = true) ∧
      (∀ d ∈ xs, ∀ s', Fr s s' → Wr (turnC t call tg one (envIn nl fv env) ifs elt d s') fun r s2 => r = f d ∧ Fr s' s2) ∧
      ∀ s', Fr s s' → s'[s.length]? = some (.lst (xs.filterMap f)) → Q (.loc s.length) s') : Wr (evalE t call (.comp k one nl tg fv it ifs elt) env st) Q := by
  obtain ⟨d, s, e, xs, p, f, hi, hl, hs, hb, q⟩ := h
  rw [e_compAt e hi]
  obtain ⟨s', e2, F, y⟩ := comp_fr (all := xs) (xs := xs) (p := p) (f := f) hl hs fun d hd s2 F => by
    obtain ⟨r, s3, e3, rfl, F3⟩ := hb d hd s2 F
    exact ⟨s3, e3, F3⟩
  rw [e2]
  exact wr_ok (q s' F y)
theorem compL_rel {all : List D} {p : Option Nat} {n0 : Nat} {body : D → Sto → Res (Option D)} {J : Nat → List D → Sto → Prop} (hs : ∀ i ys st, J i ys st → stays st p all = true) :
    ∀ (xs : List D) (i : Nat) (ys : List D) (st : Sto), J i ys st → st[n0]? = some (.lst ys) → ys.length + xs.length ≤ sizeLine →
    (∀ (j : Nat) (d : D), xs[j]? = some d → ∀ st ys, J (i + j) ys st → st[n0]? = some (.lst ys) → Wr (body d st) fun r s => s[n0]? = some (.lst ys) ∧ ((∃ y, r = some y ∧ J (i + j + 1) (ys ++ [y]) (s.set n0 (.lst (ys ++ [y])))) ∨ (r = none ∧ J (i + j + 1) ys s))) →
    ∃ st' ys', compLoop all p n0 body xs st = .ok () st' ∧ J (i + xs.length) ys' st' ∧ st'[n0]? = some (.lst ys')
  | [], i, ys, st, h, hy, _, _ => ⟨st, ys, by simp only [compLoop]; rw [if_pos (hs _ _ _ h)], h, hy⟩
  | d :: r, i, ys, st, h, hy, hl, hb => by
    obtain ⟨a, s1, e1, y1, g⟩ := hb 0 d rfl st ys h hy
    have hb' : ∀ (j : Nat) (d : D), r[j]? = some d → ∀ st ys, J (i + 1 + j) ys st → st[n0]? = some (.lst ys) → Wr (body d st) fun r s => s[n0]? = some (.lst ys) ∧ ((∃ y, r = some y ∧ J (i + 1 + j + 1) (ys ++ [y]) (s.set n0 (.lst (ys ++ [y])))) ∨ (r = none ∧ J (i + 1 + j + 1) ys s)) := fun j x hx st ys hj hy => by
      have := hb (j + 1) x (by simpa using hx) st ys (by rwa [show i + (j + 1) = i + 1 + j by omega]) hy
      rwa [show i + (j + 1) + 1 = i + 1 + j + 1 by omega] at this
    have hl2 : ys.length < sizeLine := by simp at hl; omega
    simp only [compLoop]
    rw [if_pos (hs _ _ _ h), e1]
    rcases g with ⟨y, rfl, g⟩ | ⟨rfl, g⟩
    · obtain ⟨s2, ys2, e2, j2, y2⟩ := compL_rel hs r (i + 1) (ys ++ [y]) _ g (set_at y1 _) (by simp at hl ⊢; omega) hb'
      refine ⟨s2, ys2, ?_, by rwa [show i + (d :: r).length = i + 1 + r.length by simp; omega], y2⟩
      simp only [y1, hl2, if_true]
      exact e2
    · obtain ⟨s2, ys2, e2, j2, y2⟩ := compL_rel hs r (i + 1) ys s1 g y1 (by simp at hl ⊢; omega) hb'
      exact ⟨s2, ys2, e2, by rwa [show i + (d :: r).length = i + 1 + r.length by simp; omega], y2⟩
theorem w_compR {k nl : Nat} {one : Bool} {tg fv : List Nat} {it elt : E} {ifs : Es}
    (h : Wr (evalE t call it env st) fun d s => ∃ xs p, ∃ J : Nat → List D → Sto → Prop, itOf k s d = some (xs, p) ∧ xs.length ≤ sizeLine ∧ (∀ i ys s', J i ys s' → stays s' p xs = true) ∧ J 0 [] (s ++ [.lst []]) ∧
      (∀ (j : Nat) (d : D), xs[j]? = some d → ∀ s1 ys, J j ys s1 → s1[s.length]? = some (.lst ys) → Wr (turnC t call tg one (envIn nl fv env) ifs elt d s1) fun r s2 => s2[s.length]? = some (.lst ys) ∧ ((∃ y, r = some y ∧ J (j + 1) (ys ++ [y]) (s2.set s.length (.lst (ys ++ [y])))) ∨ (r = none ∧ J (j + 1) ys s2))) ∧
      ∀ s' ys, J xs.length ys s' → s'[s.length]? = some (.lst ys) → Q (.loc s.length) s') : Wr (evalE t call (.comp k one nl tg fv it ifs elt) env st) Q := by
  obtain ⟨d, s, e, xs, p, J, hi, hl, hs, h0, hb, q⟩ := h
  rw [e_compAt e hi]
  obtain ⟨s', ys, e2, j2, y2⟩ := compL_rel (all := xs) (p := p) (n0 := s.length) (J := J) hs xs 0 [] (s ++ [.lst []]) h0 (gg0.trans rfl) (by simpa using hl) fun j d hd s1 ys hj hy => by
    rw [Nat.zero_add] at hj ⊢
    exact hb j d hd s1 ys hj hy
  rw [Nat.zero_add] at j2
  rw [e2]
  exact wr_ok (q s' ys j2 y2)
def Kf (Q : D → Sto → Prop) (f : Fl) (s : Sto) : Prop := match f with
 | .next _ => Q .non s
 | .ret d => Q d s
 | _ => False
theorem kf_next (h : Q .non st) : Kf Q (.next env) st := h
theorem kf_ret {d : D} (h : Q d st) : Kf Q (.ret d) st := h
theorem w_fn {fns : List Fn} {n f np nl : Nat} {b : Ss} {args : List D} (env : DD.Env) (h : fns[f]? = some ⟨np, nl, b⟩) (hl : args.length = np) (hn : np ≤ nl) (he : args.map some ++ List.replicate (nl - np) none = env) (w : Wr (execSs t (callD t fns F n) F b env st) (Kf Q)) : Wr (callD t fns F (n + 1) f args st) Q := by
  show Wr (match fns[f]? with
      | some fn => if args.length = fn.np ∧ fn.np ≤ fn.nl then fin (execSs t (callD t fns F n) F fn.body (args.map some ++ List.replicate (fn.nl - fn.np) none) st) else .bad
      | none => .bad) Q
  rw [h]; simp only; rw [if_pos ⟨hl, hn⟩, he]
  unfold fin
  refine wr_bind (w.imp fun f s h => ?_)
  cases f with
  | next e => exact wr_ok h
  | ret d => exact wr_ok h
  | brk e => exact h.elim
  | cont e => exact h.elim
theorem wp_nt {A B : Prop} (h : B) : (((!true) = true → A) ∧ ((!true) = false → B)) := wp_f h
theorem wp_nf {A B : Prop} (h : A) : (((!false) = true → A) ∧ ((!false) = false → B)) := wp_t h
end
section
variable {st : Sto} {Q : D → Sto → Prop} {i j : Int} {n m : Nat} {xs ys : List D} {kvs : List (D × D)} {d k : D}
theorem r_add (h : Q (.int (i + j)) st) : Wr (opD .add (.int i) (.int j) st) Q := ⟨_, _, o_add, h⟩
theorem r_sub (h : Q (.int (i - j)) st) : Wr (opD .sub (.int i) (.int j) st) Q := ⟨_, _, o_sub, h⟩
theorem r_mulL (g : smallI i) (h : Q (.int (i * j)) st) : Wr (opD .mul (.int i) (.int j) st) Q := ⟨_, _, o_mul (.inl g), h⟩
theorem r_mulR (g : smallI j) (h : Q (.int (i * j)) st) : Wr (opD .mul (.int i) (.int j) st) Q := ⟨_, _, o_mul (.inr (.inl g)), h⟩
theorem r_fdiv (g : divOk j) (h : Q (.int (i.fdiv j)) st) : Wr (opD .fdiv (.int i) (.int j) st) Q := ⟨_, _, o_fdiv g, h⟩
theorem r_mod (g : j ≠ 0) (h : Q (.int (i.fmod j)) st) : Wr (opD .mod (.int i) (.int j) st) Q := ⟨_, _, o_mod g, h⟩
theorem r_pow (g : powOk i j) (h : Q (.int (i ^ j.toNat)) st) : Wr (opD .pow (.int i) (.int j) st) Q := ⟨_, _, o_pow g, h⟩
theorem r_addL (hn : st[n]? = some (.lst xs)) (hm : st[m]? = some (.lst ys)) (g : xs.length + ys.length ≤ sizeLine) (h : Q (.loc st.length) (st ++ [.lst (xs ++ ys)])) : Wr (opD .add (.loc n) (.loc m) st) Q := ⟨_, _, o_addL hn hm g, h⟩
theorem r_addS {a b : Str} (g : a.length + b.length ≤ sizeLine) (h : Q (.str (a ++ b)) st) : Wr (opD .add (.str a) (.str b) st) Q := ⟨_, _, by simp only [opD]; rw [if_pos g], h⟩
theorem r_eqi (h : Q (.bl (decide (i = j))) st) : Wr (cmD .eq (.int i) (.int j) st) Q := ⟨_, _, m_eqi, h⟩
theorem r_nei (h : Q (.bl (!decide (i = j))) st) : Wr (cmD .ne (.int i) (.int j) st) Q := ⟨_, _, m_nei, h⟩
theorem r_lt (h : Q (.bl (decide (i < j))) st) : Wr (cmD .lt (.int i) (.int j) st) Q := ⟨_, _, m_lt, h⟩
theorem r_le (h : Q (.bl (decide (i ≤ j))) st) : Wr (cmD .le (.int i) (.int j) st) Q := ⟨_, _, m_le, h⟩
theorem r_gt (h : Q (.bl (decide (j < i))) st) : Wr (cmD .gt (.int i) (.int j) st) Q := ⟨_, _, m_gt, h⟩
theorem r_isN (h : Q (.bl (decide (d = .non))) st) : Wr (cmD .isN d .non st) Q := ⟨_, _, by simp only [cmD], h⟩
theorem r_eqN {a b : D} (ha : okN 40 a = true) (hb : okN 40 b = true) (h : Q (.bl (decide (a = b))) st) : Wr (cmD .eq a b st) Q := ⟨_, _, m_eqN ha hb, h⟩
theorem r_eqL (h1 : lstOf st n = some xs) (h2 : lstOf st m = some ys) (hx : xs.all (okN 39) = true) (hy : ys.all (okN 39) = true) (h : Q (.bl (decide (xs = ys))) st) : Wr (cmD .eq (.loc n) (.loc m) st) Q := ⟨_, _, m_eqL h1 h2 hx hy, h⟩
theorem r_neL (h1 : lstOf st n = some xs) (h2 : lstOf st m = some ys) (hx : xs.all (okN 39) = true) (hy : ys.all (okN 39) = true) (h : Q (.bl (!decide (xs = ys))) st) : Wr (cmD .ne (.loc n) (.loc m) st) Q := ⟨_, _, m_neL h1 h2 hx hy, h⟩
theorem r_inT {a : D} (ha : okN 40 a = true) (hx : xs.all (okN 40) = true) (h : Q (.bl (decide (a ∈ xs))) st) : Wr (cmD .inL a (.tup xs) st) Q := ⟨_, _, m_inT ha hx, h⟩
theorem r_ixT (e : L2.atI xs i = some d) (h : Q d st) : Wr (ixD (.tup xs) (.int i) st) Q := ⟨_, _, i_atT e, h⟩
theorem r_ixL (g : lstOf st n = some xs) (e : L2.atI xs i = some d) (h : Q d st) : Wr (ixD (.loc n) (.int i) st) Q := ⟨_, _, i_atL g e, h⟩
theorem r_lenT (h : Q (.int xs.length) st) : Wr (btD .lenB [.tup xs] st) Q := ⟨_, _, b_lenT, h⟩
theorem r_lenL (g : lstOf st n = some xs) (h : Q (.int xs.length) st) : Wr (btD .lenB [.loc n] st) Q := ⟨_, _, b_lenL g, h⟩
theorem r_intB {b : Bool} (h : Q (.int (if b then 1 else 0)) st) : Wr (btD .intB [.bl b] st) Q := ⟨_, _, b_intb, h⟩
theorem r_tupleB (g : seqOf st d = some xs) (h : Q (.tup xs) st) : Wr (btD .tupleB [d] st) Q := ⟨_, _, by simp only [btD, g], h⟩
theorem r_all {bs : List Bool} (g : lstOf st n = some xs) (e : blsOf xs = some bs) (h : Q (.bl (bs.all id)) st) : Wr (btD .allB [.loc n] st) Q := ⟨_, _, by simp only [btD, g, Option.bind_some, e], h⟩
theorem r_append (g : st[n]? = some (.lst xs)) (hl : xs.length < sizeLine) (h : Q .non (st.set n (.lst (xs ++ [d])))) : Wr (mtD .append (.loc n) [d] st) Q := ⟨_, _, by simp only [mtD, g]; rw [if_pos hl], h⟩
theorem r_slL {k : Nat} {ds : List D} {lo hi : Option Int} (e : slParts k ds = some (lo, hi)) (g : lstOf st n = some xs) (h : Q (.loc st.length) (st ++ [.lst (cutD xs lo hi)])) : Wr (slD k (.loc n) ds st) Q := ⟨_, _, by simp only [slD, e, g], h⟩
theorem rdy_lst {m : Mt} (g : st[n]? = some (.lst xs)) (hm : rdy m st (.loc n) = isLst st (.loc n) := by rfl) : rdy m st (.loc n) = true := by rw [hm]; simp only [isLst, g]
end
end DD
namespace DD
open PySem L2
section
variable {t : Nat → Ty → Option Bool} {call : Or} {F : Nat} {env : DD.Env} {st : Sto} {Q : D → Sto → Prop} {QF : Fl → Sto → Prop}
theorem wl_while {test : DD.Env → Sto → Res Bool} {body : DD.Env → Sto → Res Fl} (J : Nat → DD.Env → Sto → Prop)
    (ht : ∀ m env st, J m env st → Wr (test env st) fun x s => (x = true → Wr (body env s) fun f s' => ∃ env' m', f = .next env' ∧ m' < m ∧ J m' env' s') ∧ (x = false → QF (.next env) s)) :
    ∀ (g m : Nat) (env : DD.Env) (st : Sto), m < g → J m env st → Wr (whileLoop test body g env st) QF
  | 0, m, env, st, h, _ => by omega
  | g + 1, m, env, st, h, j => by
    simp only [whileLoop]
    refine wr_bind ((ht m env st j).imp fun x s h2 => ?_)
    cases x with
    | false => exact wr_ok (h2.2 rfl)
    | true =>
      refine wr_bind ((h2.1 rfl).imp fun f s' h3 => ?_)
      obtain ⟨env', m', rfl, hm, j'⟩ := h3
      exact wl_while J ht g m' env' s' (by omega) j'
theorem ws_while {c : E} {b : Ss} (J : Nat → DD.Env → Sto → Prop) (m : Nat) (hm : m < F) (h0 : J m env st)
    (ht : ∀ m env st, J m env st → Wr (evalT t call c env st) fun x s => (x = true → Wr (execSs t call F b env s) fun f s' => ∃ env' m', f = .next env' ∧ m' < m ∧ J m' env' s') ∧ (x = false → QF (.next env) s)) : Wr (execS t call F (.whileS c b) env st) QF := by
  rw [x_while]
  exact wl_while J ht F m env st hm h0
end
section
variable {st : Sto} {Q : D → Sto → Prop} {i j : Int} {n m : Nat} {xs ys : List D} {kvs : List (D × D)} {d k : D}
end
end DD
namespace DD
open PySem PySem.Spec L2
open PyProof.Rows hiding St RelV
variable {g : G} {X : Cx} {a b c : Expr} {a' b' c' : E} {pos apos cpos : Pos} {rest es : List Expr} {es' : Es} {F : Nat}
end DD
namespace DD
open PySem PySem.Spec L2
open PyProof.Rows hiding St RelV
section
variable {g : G} {X : Cx} {pos : Pos}
theorem ints_rep {rho : List Addr} {H : Hp} : ∀ {ds : List D} {is : List Int} {vs : List V}, intsOf ds = some is → g.RepL rho H ds vs → vs = is.map V.int
 | [], is, vs, h, r => by simp only [intsOf] at h; cases h; simpa [DD.RepL] using r
 | d :: t, is, vs, h, r => by
  cases d with
  | int i =>
   simp only [intsOf] at h
   cases z : intsOf t with
   | none => rw [z] at h; cases h
   | some js =>
    rw [z] at h; cases h
    simp only [DD.RepL] at r
    obtain ⟨v, w, rfl, r1, r2⟩ := r
    rw [List.map_cons, ints_rep z r2, rep_int.mp r1]
  | _ => simp [intsOf] at h
end
end DD
namespace DD
open PySem PySem.Spec L2
open PyProof.Rows hiding St RelV
noncomputable def bstL (p : Int → Int → Bool) : List Int → Int
 | [] => 0
 | a :: r => r.foldl (fun m x => if p x m = true then x else m) a
theorem bst_snoc (p : Int → Int → Bool) (x : Int) : ∀ (a : Int) (r : List Int), bstL p (a :: r ++ [x]) = if p x (bstL p (a :: r)) = true then x else bstL p (a :: r) := fun a r => by
 show (r ++ [x]).foldl _ a = _
 rw [List.foldl_append]; rfl
theorem bst_arg (p : Int → Int → Bool) (a : Int) (r : List Int) : ∀ k, k ≤ r.length → (a :: r).getD (argBest (fun i j => p ((a :: r).getD i 0) ((a :: r).getD j 0)) k) 0 = bstL p (a :: r.take k)
 | 0, _ => by simp [argBest, bstL]
 | k + 1, h => by
  have ih := bst_arg p a r k (by omega)
  have hk : (a :: r).getD (k + 1) 0 = r[k] := by simp [show k < r.length by omega]
  have e : a :: r.take (k + 1) = a :: r.take k ++ [r[k]] := by simp
  rw [e, bst_snoc, ← ih, ← hk]
  simp only [argBest]
  split <;> rfl
theorem items_of : ∀ {is : List Int} {us : List Value}, Vals (is.map V.int) us → ∃ ts : List (Int × Tok), us = ts.map (fun p => Value.int p.1 p.2) ∧ ts.map (·.1) = is
 | [], us, h => by cases h; exact ⟨[], rfl, rfl⟩
 | i :: r, us, h => by
  cases h with
  | cons h1 h2 =>
   obtain ⟨t, rfl⟩ := h1
   obtain ⟨ts, rfl, e⟩ := items_of h2
   exact ⟨(i, t) :: ts, rfl, by simp [e]⟩
theorem numAt_of (ts : List (Int × Tok)) (i : Nat) : numAt ts.toArray i = (ts.map (·.1)).getD i 0 := by
 simp [numAt, List.getD]
theorem bst_item {p : Int → Int → Bool} {ts : List (Int × Tok)} {a : Int} {r : List Int} (e : ts.map (·.1) = a :: r) {v : Value} (h : (intItems ts.toArray)[argBest (fun i j => p (numAt ts.toArray i) (numAt ts.toArray j)) (ts.toArray.size - 1)]? = some v) : ∃ t, v = .int (bstL p (a :: r)) t := by
 obtain ⟨t, rfl⟩ := intItems_at h
 refine ⟨t, ?_⟩
 have hl : ts.length = r.length + 1 := by have := congrArg List.length e; simpa using this
 have e2 : (fun i j => p (numAt ts.toArray i) (numAt ts.toArray j)) = fun i j => p ((a :: r).getD i 0) ((a :: r).getD j 0) := by
  funext i j; rw [numAt_of, numAt_of, e]
 rw [e2, numAt_of, e, show ts.toArray.size - 1 = r.length by simp; omega, bst_arg p a r r.length (Nat.le_refl _), List.take_length]
section
variable {g : G} {X : Cx} {pos : Pos} {es : List Expr} {es' : Es}
theorem call_minL (hc : X.calm = true) : CallR X (.builtin "min") (fun xs H Q => ∃ a i is, xs = [.ref a] ∧ SqL X.K H a ((i :: is).map V.int) ∧ Q (.int (minL (i :: is))) H) := by
 intro pins s sg H xs us Q I r h
 obtain ⟨a, i, is, rfl, sq, q⟩ := h
 obtain ⟨u, rfl, rfl⟩ := vals1 r
 obtain ⟨its, rv, pl, hz⟩ := I.list sq
 obtain ⟨ts, e1, e2⟩ := items_of rv
 have hl : ts.length = is.length + 1 := by have := congrArg List.length e2; simpa using this
 refine min_intList (xs := ts.toArray) (I.ok.hd hc) (by have := pl.isList; rw [e1] at this; simpa [intItems] using this) (by simp; omega) fun v h' tk hv k => ⟨.int (minL (i :: is)), H, I.kept k, ?_, q⟩
 obtain ⟨t, rfl⟩ := bst_item (p := fun x m => decide (x < m)) e2 hv
 exact ⟨t, by simp [bstL, minL]⟩
theorem call_maxL (hc : X.calm = true) : CallR X (.builtin "max") (fun xs H Q => ∃ a i is, xs = [.ref a] ∧ SqL X.K H a ((i :: is).map V.int) ∧ Q (.int (maxOr 0 (i :: is))) H) := by
 intro pins s sg H xs us Q I r h
 obtain ⟨a, i, is, rfl, sq, q⟩ := h
 obtain ⟨u, rfl, rfl⟩ := vals1 r
 obtain ⟨its, rv, pl, hz⟩ := I.list sq
 obtain ⟨ts, e1, e2⟩ := items_of rv
 have hl : ts.length = is.length + 1 := by have := congrArg List.length e2; simpa using this
 refine max_intList (xs := ts.toArray) (I.ok.hd hc) (by have := pl.isList; rw [e1] at this; simpa [intItems] using this) (by simp; omega) fun v h' tk hv k => ⟨.int (maxOr 0 (i :: is)), H, I.kept k, ?_, q⟩
 obtain ⟨t, rfl⟩ := bst_item (p := fun x m => decide (x > m)) e2 hv
 exact ⟨t, by simp [bstL, maxOr]⟩
theorem mmL {f : Bt} {v : List Int → Int} (hf : ∀ ds st, btD f ds st = match ds with | [.loc n] => (match (lstOf st n).bind intsOf with | some (i :: is) => .ok (.int (v (i :: is))) st | _ => .bad) | _ => .bad) (hK : X.K = g.K) {ds : List D} {vs : List V} {st : Sto} {rho : List Addr} {H : Hp} {Q : VK} (s : g.Sto rho st H) (r : g.RepL rho H ds vs) (q : RQ g (btD f ds st) (Post g rho H Q) rho H) :
    ∃ a i is, vs = [.ref a] ∧ SqL X.K H a ((i :: is).map V.int) ∧ Q (.int (v (i :: is))) H := by
  rw [hf] at q
  split at q
  · rename_i n
    obtain ⟨u, rfl, rp⟩ := repL1 r
    cases el : lstOf st n with
    | none => rw [el] at q; exact q.elim
    | some ds =>
      rw [el, Option.bind_some] at q
      split at q
      · rename_i i is ei
        obtain ⟨a, vs, hr, sq, rl⟩ := sto_seq s el
        obtain ⟨a2, hr2, rfl⟩ := rep_loc.mp rp
        rw [hr] at hr2; cases hr2
        rw [ints_rep ei rl] at sq
        exact ⟨a, i, is, rfl, by rw [hK]; exact sq, (show Post g rho H Q (.int _) st from q) _ H rho (.refl _ _) s (rep_int.mpr rfl)⟩
      · exact q.elim
  · exact q.elim
theorem sd_minL {e : Expr} {p : Pos} (hK : X.K = g.K) (hc : X.calm = true) (hg : Gl X "min") (hm : X.mg "min" = none) (ha : SdL g X (e :: es) es') (he : starEach (e :: es) X.env = (false, eval e X.env) :: starEach es X.env := by rfl) (hpl : (backTo pos (starEach es X.env)).any (·.1) = false := by rfl) :
    Sd g X (.Call (.Name "min" p) (e :: es) [] pos) (.bt .minLB es') := pe_imp (pe_callB (call_minL hc) hg hm rfl ha (by decide) (by decide) he hpl) fun sg H Q q => bts (f := .minLB) (fun ds vs st rho H Q s r q => mmL (v := minL) (fun _ _ => rfl) hK s r q) q
theorem sd_maxL {e : Expr} {p : Pos} (hK : X.K = g.K) (hc : X.calm = true) (hg : Gl X "max") (hm : X.mg "max" = none) (ha : SdL g X (e :: es) es') (he : starEach (e :: es) X.env = (false, eval e X.env) :: starEach es X.env := by rfl) (hpl : (backTo pos (starEach es X.env)).any (·.1) = false := by rfl) :
    Sd g X (.Call (.Name "max" p) (e :: es) [] pos) (.bt .maxLB es') := pe_imp (pe_callB (call_maxL hc) hg hm rfl ha (by decide) (by decide) he hpl) fun sg H Q q => bts (f := .maxLB) (fun ds vs st rho H Q s r q => mmL (v := maxOr 0) (fun _ _ => rfl) hK s r q) q
end
end DD
namespace My
open PySem PySem.Spec L2 DD
open PyProof.Rows hiding St
noncomputable def top (i : Nat) : Stmt := PySem.Challenge.pw_partproof_k56_false_by_a_path.main.body.getD i (.Pass ⟨0, 0, 0, 0⟩)
noncomputable def clsBody : Stmt → List Stmt
 | .ClassDef _ _ _ b _ _ _ _ _ _ _ => b
 | _ => []
noncomputable def meth (i j : Nat) : Stmt := (clsBody (top i)).getD j (.Pass ⟨0, 0, 0, 0⟩)
theorem passF {P : Program} {w : World} {X : Cx} : Passes (CXd P w) X (fun _ _ _ => False) := fun _ _ _ _ _ _ _ ⟨_, _, _, _, _, _, _, h⟩ => h.elim
abbrev st_terms_in : Stmt := top 2
abbrev st_label_of : Stmt := top 3
abbrev st_Numbering_9__init__ : Stmt := meth 4 0
abbrev st_Numbering_9number : Stmt := meth 4 1
abbrev st_Tellings_9__init__ : Stmt := meth 7 0
abbrev st_Tellings_9key_of : Stmt := meth 7 1
abbrev st_Tellings_9number_of : Stmt := meth 7 2
abbrev st_Tellings_9tell : Stmt := meth 7 3
abbrev st_Tellings_9truth_of : Stmt := meth 7 7
abbrev st_tellings_of : Stmt := top 8
abbrev st_keyed : Stmt := top 10
abbrev st_truth_by : Stmt := top 11
abbrev st_is_false : Stmt := top 12
abbrev st__law_cell_at : Stmt := top 14
abbrev st__law_draws : Stmt := top 15
abbrev st__law_taken : Stmt := top 16
abbrev st__law_spelt : Stmt := top 17
abbrev st__law_fraction : Stmt := top 19
abbrev st__law_thing : Stmt := top 20
abbrev st__law_built : Stmt := top 24
abbrev st__law_value : Stmt := top 25
abbrev st__law_atoms : Stmt := top 26
abbrev st_law : Stmt := top 27
noncomputable def c__wall : Ss := (.cons (.whileS (.cst (.bl true)) (.cons .pass .nil)) .nil)
noncomputable def c_terms_in : Ss := (.cons (.set 1 (.ix (.var 0) (.cst (.int 0)))) (.cons (.ifS (.cm .eq (.var 1) (.cst (.str (Str.ofString "plus")))) (.cons (.ret (.ix (.var 0) (.cst (.int 1)))) .nil) .nil) (.cons (.ifS (.cm .eq (.var 1) (.cst (.str (Str.ofString "call")))) (.cons (.ret (.ix (.var 0) (.cst (.int 2)))) .nil) .nil) (.cons (.ifS (.cm .eq (.var 1) (.cst (.str (Str.ofString "weigh")))) (.cons (.ret (.sl 1 (.var 0) (.cons (.cst (.int 2)) .nil))) .nil) .nil) (.cons (.ifS (.cm .inL (.var 1) (.tupE (.cons (.cst (.str (Str.ofString "read"))) (.cons (.cst (.str (Str.ofString "put"))) .nil)))) (.cons (.ret (.sl 1 (.var 0) (.cons (.cst (.int 1)) .nil))) .nil) .nil) (.cons (.ret (.tupE .nil)) .nil))))))
noncomputable def c_label_of : Ss := (.cons (.ifS (.cm .inL (.ix (.var 0) (.cst (.int 0))) (.tupE (.cons (.cst (.str (Str.ofString "plus"))) (.cons (.cst (.str (Str.ofString "read"))) (.cons (.cst (.str (Str.ofString "put"))) .nil))))) (.cons (.ret (.sl 2 (.var 0) (.cons (.cst (.int 1)) .nil))) .nil) .nil) (.cons (.ret (.sl 2 (.var 0) (.cons (.cst (.int 2)) .nil))) .nil))
noncomputable def c_Numbering_9__init__ : Ss := (.cons (.setf 0 (.var 0) (Str.ofString "terms") (.lstE .nil)) (.cons (.setf 0 (.var 0) (Str.ofString "numbers") .dnewN) .nil))
noncomputable def c_Numbering_9number : Ss := (.cons (.set 2 (.tupE (.cons (.call 2 (.cons (.var 1) .nil) []) (.cons (.bt .tupleB (.cons (.comp 1 true 1 [0] [0] (.call 1 (.cons (.var 1) .nil) []) .nil (.meth 0 4 (Str.ofString "number") (.var 1) (.cons (.var 0) .nil))) .nil)) .nil)))) (.cons (.ifS (.cm .notIn (.var 2) (.fld 0 (.var 0) (Str.ofString "numbers"))) (.cons (.dput (.fld 0 (.var 0) (Str.ofString "numbers")) (.var 2) (.bt .lenB (.cons (.fld 0 (.var 0) (Str.ofString "terms")) .nil))) (.cons (.ex (.mt .append (.fld 0 (.var 0) (Str.ofString "terms")) (.cons (.var 1) .nil))) .nil)) .nil) (.cons (.ret (.ix (.fld 0 (.var 0) (Str.ofString "numbers")) (.var 2))) .nil)))
noncomputable def c_Tellings_9__init__ : Ss := (.cons (.setf 1 (.var 0) (Str.ofString "numbering") (.mk 0 3 .nil)) (.cons (.setf 1 (.var 0) (Str.ofString "trail") (.lstE .nil)) (.cons (.setf 1 (.var 0) (Str.ofString "signs") .dnewN) .nil)))
noncomputable def c_Tellings_9key_of : Ss := (.cons (.unp [2, 3, 4] (.var 1)) (.cons (.ret (.tupE (.cons (.var 2) (.cons (.meth 1 7 (Str.ofString "number_of") (.var 0) (.cons (.var 3) .nil)) (.cons (.meth 1 7 (Str.ofString "number_of") (.var 0) (.cons (.var 4) .nil)) .nil))))) .nil))
noncomputable def c_Tellings_9number_of : Ss := (.cons (.ret (.meth 0 4 (Str.ofString "number") (.fld 1 (.var 0) (Str.ofString "numbering")) (.cons (.var 1) .nil))) .nil)
noncomputable def c_Tellings_9tell : Ss := (.cons (.set 3 (.meth 1 6 (Str.ofString "key_of") (.var 0) (.cons (.var 1) .nil))) (.cons (.ex (.mt .append (.fld 1 (.var 0) (Str.ofString "trail")) (.cons (.var 3) .nil))) (.cons (.ex (.mt .append (.mt .sdefN (.fld 1 (.var 0) (Str.ofString "signs")) (.cons (.var 3) (.cons (.lstE .nil) .nil))) (.cons (.var 2) .nil))) .nil)))
noncomputable def c_Tellings_9back_to : Ss := (.cons (.ex (.call 0 (.cons (.cst (.int 0)) .nil) [])) .nil)
noncomputable def c_Tellings_9many_told : Ss := (.cons (.ex (.call 0 (.cons (.cst (.int 1)) .nil) [])) .nil)
noncomputable def c_Tellings_9has : Ss := (.cons (.ret (.cm .inL (.var 2) (.mt .getN (.fld 1 (.var 0) (Str.ofString "signs")) (.cons (.meth 1 6 (Str.ofString "key_of") (.var 0) (.cons (.var 1) .nil)) (.cons (.lstE .nil) .nil))))) .nil)
noncomputable def c_Tellings_9truth_of : Ss := (.cons (.set 2 (.mt .getN (.fld 1 (.var 0) (Str.ofString "signs")) (.cons (.var 1) .nil))) (.cons (.ret (.ifE (.var 2) (.ix (.var 2) (.cst (.int 0))) (.cst .non))) .nil))
noncomputable def c_Tellings_9less : Ss := (.cons (.ex (.call 0 (.cons (.cst (.int 2)) .nil) [])) .nil)
noncomputable def c_Tellings_9fact : Ss := (.cons (.ex (.call 0 (.cons (.cst (.int 3)) .nil) [])) .nil)
noncomputable def c_Tellings_9named : Ss := (.cons (.ex (.call 0 (.cons (.cst (.int 4)) .nil) [])) .nil)
noncomputable def c_tellings_of : Ss := (.cons (.set 1 (.mk 1 5 .nil)) (.cons (.forS [2, 3] false true (.var 0) (.cons (.ex (.meth 1 8 (Str.ofString "tell") (.var 1) (.cons (.var 2) (.cons (.var 3) .nil)))) .nil)) (.cons (.ret (.var 1)) .nil)))
noncomputable def c_keyed : Ss := (.cons (.set 2 (.ix (.var 1) (.cst (.int 0)))) (.cons (.ifS (.cm .inL (.var 2) (.cst (.tup [.str (Str.ofString "atmost"), .str (Str.ofString "below"), .str (Str.ofString "same")]))) (.cons (.ret (.tupE (.cons (.cst (.str (Str.ofString "key"))) (.cons (.meth 1 6 (Str.ofString "key_of") (.var 0) (.cons (.var 1) .nil)) .nil)))) .nil) .nil) (.cons (.ifS (.cm .eq (.var 2) (.cst (.str (Str.ofString "not")))) (.cons (.ret (.tupE (.cons (.cst (.str (Str.ofString "not"))) (.cons (.call 17 (.cons (.var 0) (.cons (.ix (.var 1) (.cst (.int 1))) .nil)) []) .nil)))) .nil) .nil) (.cons (.ret (.tupE (.cons (.var 2) (.cons (.bt .tupleB (.cons (.comp 1 true 1 [0] [0] (.ix (.var 1) (.cst (.int 1))) .nil (.call 17 (.cons (.var 1) (.cons (.var 0) .nil)) [])) .nil)) .nil)))) .nil))))
noncomputable def c_truth_by : Ss := (.cons (.unp [2, 3] (.var 1)) (.cons (.ifS (.cm .eq (.var 2) (.cst (.str (Str.ofString "key")))) (.cons (.ret (.meth 1 12 (Str.ofString "truth_of") (.var 0) (.cons (.var 3) .nil))) .nil) .nil) (.cons (.ifS (.cm .eq (.var 2) (.cst (.str (Str.ofString "not")))) (.cons (.set 4 (.call 18 (.cons (.var 0) (.cons (.var 3) .nil)) [])) (.cons (.ret (.ifE (.cm .isN (.var 4) (.cst .non)) (.cst .non) (.notE (.var 4)))) .nil)) .nil) (.cons (.set 5 (.comp 1 true 1 [0] [0] (.var 3) .nil (.call 18 (.cons (.var 1) (.cons (.var 0) .nil)) []))) (.cons (.set 6 (.cm .eq (.var 2) (.cst (.str (Str.ofString "or"))))) (.cons (.ifS (.cm .inL (.var 6) (.var 5)) (.cons (.ret (.var 6)) .nil) .nil) (.cons (.ret (.ifE (.cm .inL (.cst .non) (.var 5)) (.cst .non) (.notE (.var 6)))) .nil)))))))
noncomputable def c_is_false : Ss := (.cons (.set 2 (.call 16 (.cons (.var 1) .nil) [])) (.cons (.ret (.cm .isN (.call 18 (.cons (.var 2) (.cons (.call 17 (.cons (.var 2) (.cons (.var 0) .nil)) []) .nil)) []) (.cst (.bl false)))) .nil))
noncomputable def c__law_cell_at : Ss := (.cons (.ifS (.cm .lt (.var 1) (.bt .lenB (.cons (.var 0) .nil))) (.cons (.ret (.ix (.var 0) (.var 1))) .nil) .nil) (.cons (.ret (.cst (.int 0))) .nil))
noncomputable def c__law_draws : Ss := (.cons (.set 2 (.lstE .nil)) (.cons (.set 3 (.op .fdiv (.var 0) (.cst (.int 2)))) (.cons (.ifS (.cm .eq (.op .mod (.var 0) (.cst (.int 2))) (.cst (.int 0))) (.cons (.whileS (.andE (.cm .gt (.var 3) (.cst (.int 0))) (.cm .lt (.bt .lenB (.cons (.var 2) .nil)) (.var 1))) (.cons (.ex (.mt .append (.var 2) (.cons (.op .mod (.var 3) (.op .pow (.cst (.int 10)) (.cst (.int 6)))) .nil))) (.cons (.set 3 (.op .fdiv (.var 3) (.op .pow (.cst (.int 10)) (.cst (.int 6))))) .nil))) .nil) .nil) (.cons (.set 4 (.op .mod (.op .add (.var 0) (.cst (.int 48271))) (.cst (.int 2147483647)))) (.cons (.whileS (.cm .lt (.bt .lenB (.cons (.var 2) .nil)) (.var 1)) (.cons (.set 4 (.op .mod (.op .mul (.var 4) (.cst (.int 48271))) (.cst (.int 2147483647)))) (.cons (.ex (.mt .append (.var 2) (.cons (.op .mod (.op .mul (.var 4) (.op .add (.op .fdiv (.var 4) (.cst (.int 1009))) (.cst (.int 69621)))) (.cst (.int 2147483629))) .nil))) .nil))) (.cons (.ret (.var 2)) .nil))))))
noncomputable def c__law_taken : Ss := (.cons (.ifS (.cm .eq (.var 0) (.lstE .nil)) (.cons (.ret (.cst (.int 0))) .nil) .nil) (.cons (.ret (.op .mod (.mt .popI (.var 0) (.cons (.cst (.int 0)) .nil)) (.var 1))) .nil))
noncomputable def c__law_spelt : Ss := (.cons (.set 1 (.ix (.lstE (.cons (.cst (.str (Str.ofString ""))) (.cons (.cst (.str (Str.ofString "q"))) (.cons (.cst (.str (Str.ofString "zz"))) .nil)))) (.op .mod (.var 0) (.cst (.int 3))))) (.cons (.ret (.comp 3 true 1 [0] [1] (.cst (.str (Str.ofString "xykoabfghmn"))) .nil (.op .add (.var 0) (.var 1)))) .nil))
noncomputable def c__law_lists : Ss := (.cons (.set 1 (.call 23 (.cons (.var 0) .nil) [])) (.cons (.set 2 (.op .sub (.op .mod (.op .fdiv (.var 0) (.cst (.int 3))) (.cst (.int 41))) (.cst (.int 20)))) (.cons (.set 3 (.lstE (.cons (.tupE (.cons (.ix (.var 1) (.cst (.int 2))) (.cons (.var 2) (.cons (.op .add (.var 2) (.op .mod (.op .fdiv (.var 0) (.cst (.int 123))) (.cst (.int 8)))) .nil)))) (.cons (.tupE (.cons (.ix (.var 1) (.cst (.int 3))) (.cons (.op .sub (.cst (.int 0)) (.var 2)) (.cons (.op .sub (.op .mod (.op .fdiv (.var 0) (.cst (.int 984))) (.cst (.int 61))) (.var 2)) .nil)))) .nil)))) (.cons (.set 4 (.lstE (.cons (.tupE (.cons (.ix (.var 1) (.cst (.int 6))) (.cons (.tupE (.cons (.cst (.str (Str.ofString "num"))) .nil)) (.cons (.cst (.str (Str.ofString "num"))) .nil)))) (.cons (.tupE (.cons (.ix (.var 1) (.cst (.int 7))) (.cons (.tupE (.cons (.cst (.str (Str.ofString "thing"))) (.cons (.cst (.str (Str.ofString "num"))) .nil))) (.cons (.cst (.str (Str.ofString "num"))) .nil)))) (.cons (.tupE (.cons (.ix (.var 1) (.cst (.int 8))) (.cons (.tupE (.cons (.cst (.str (Str.ofString "thing"))) .nil)) (.cons (.cst (.str (Str.ofString "thing"))) .nil)))) .nil))))) (.cons (.ret (.tupE (.cons (.sl 2 (.var 1) (.cons (.cst (.int 2)) .nil)) (.cons (.var 3) (.cons (.sl 3 (.var 1) (.cons (.cst (.int 4)) (.cons (.cst (.int 6)) .nil))) (.cons (.var 4) (.cons (.sl 1 (.var 1) (.cons (.cst (.int 9)) .nil)) .nil))))))) .nil)))))
noncomputable def c__law_fraction : Ss := (.cons (.set 1 (.op .sub (.call 22 (.cons (.var 0) (.cons (.cst (.int 13)) .nil)) []) (.cst (.int 6)))) (.cons (.set 2 (.op .add (.cst (.int 1)) (.call 22 (.cons (.var 0) (.cons (.cst (.int 3)) .nil)) []))) (.cons (.forS [3] true true (.tupE (.cons (.cst (.int 2)) (.cons (.cst (.int 3)) .nil))) (.cons (.ifS (.andE (.cm .eq (.op .mod (.var 1) (.var 3)) (.cst (.int 0))) (.cm .eq (.op .mod (.var 2) (.var 3)) (.cst (.int 0)))) (.cons (.set 1 (.op .fdiv (.var 1) (.var 3))) (.cons (.set 2 (.op .fdiv (.var 2) (.var 3))) .nil)) .nil) .nil)) (.cons (.ret (.tupE (.cons (.var 1) (.cons (.var 2) .nil)))) .nil))))
noncomputable def c__law_thing : Ss := (.cons (.set 3 (.call 22 (.cons (.var 0) (.cons (.cst (.int 3)) .nil)) [])) (.cons (.ifS (.andE (.cm .eq (.var 3) (.cst (.int 2))) (.cm .gt (.var 2) (.cst (.int 0)))) (.cons (.ret (.tupE (.cons (.cst (.str (Str.ofString "call"))) (.cons (.ix (.var 1) (.cst (.int 8))) (.cons (.tupE (.cons (.call 26 (.cons (.var 0) (.cons (.var 1) (.cons (.op .sub (.var 2) (.cst (.int 1))) .nil))) []) .nil)) .nil))))) .nil) .nil) (.cons (.ret (.tupE (.cons (.cst (.str (Str.ofString "unknown"))) (.cons (.ix (.var 1) (.op .add (.cst (.int 4)) (.op .mod (.var 3) (.cst (.int 2))))) .nil)))) .nil)))
noncomputable def c__law_array : Ss := (.cons (.ifS (.andE (.cm .gt (.var 2) (.cst (.int 1))) (.cm .eq (.call 22 (.cons (.var 0) (.cons (.cst (.int 2)) .nil)) []) (.cst (.int 1)))) (.cons (.set 3 (.call 27 (.cons (.var 0) (.cons (.var 1) (.cons (.op .sub (.var 2) (.cst (.int 1))) .nil))) [])) (.cons (.ret (.tupE (.cons (.cst (.str (Str.ofString "put"))) (.cons (.var 3) (.cons (.call 28 (.cons (.var 0) (.cons (.var 1) (.cons (.op .sub (.var 2) (.cst (.int 1))) .nil))) []) (.cons (.call 28 (.cons (.var 0) (.cons (.var 1) (.cons (.op .sub (.var 2) (.cst (.int 1))) .nil))) []) .nil)))))) .nil)) .nil) (.cons (.ret (.tupE (.cons (.cst (.str (Str.ofString "unknown"))) (.cons (.ix (.var 1) (.op .add (.cst (.int 9)) (.call 22 (.cons (.var 0) (.cons (.cst (.int 2)) .nil)) []))) .nil)))) .nil))
noncomputable def c__law_num : Ss := (.cons (.set 3 (.call 22 (.cons (.var 0) (.cons (.ix (.lstE (.cons (.cst (.int 3)) (.cons (.cst (.int 9)) .nil))) (.bt .intB (.cons (.cm .gt (.var 2) (.cst (.int 0))) .nil))) .nil)) [])) (.cons (.ifS (.cm .eq (.var 3) (.cst (.int 0))) (.cons (.ret (.tupE (.cons (.cst (.str (Str.ofString "number"))) (.cons (.call 25 (.cons (.var 0) .nil) []) .nil)))) .nil) .nil) (.cons (.ifS (.cm .lt (.var 3) (.cst (.int 3))) (.cons (.ret (.tupE (.cons (.cst (.str (Str.ofString "unknown"))) (.cons (.ix (.var 1) (.call 22 (.cons (.var 0) (.cons (.cst (.int 4)) .nil)) [])) .nil)))) .nil) .nil) (.cons (.ifS (.cm .eq (.var 3) (.cst (.int 3))) (.cons (.ret (.tupE (.cons (.cst (.str (Str.ofString "weigh"))) (.cons (.call 25 (.cons (.var 0) .nil) []) (.cons (.call 28 (.cons (.var 0) (.cons (.var 1) (.cons (.op .sub (.var 2) (.cst (.int 1))) .nil))) []) .nil))))) .nil) .nil) (.cons (.ifS (.cm .lt (.var 3) (.cst (.int 6))) (.cons (.ret (.tupE (.cons (.cst (.str (Str.ofString "plus"))) (.cons (.bt .tupleB (.cons (.comp 2 true 1 [0] [0, 1, 2] (.tupE (.cons (.call 22 (.cons (.var 0) (.cons (.cst (.int 4)) .nil)) []) .nil)) .nil (.call 28 (.cons (.var 1) (.cons (.var 2) (.cons (.op .sub (.var 3) (.cst (.int 1))) .nil))) [])) .nil)) .nil)))) .nil) .nil) (.cons (.ifS (.cm .eq (.var 3) (.cst (.int 6))) (.cons (.ret (.tupE (.cons (.cst (.str (Str.ofString "call"))) (.cons (.ix (.var 1) (.cst (.int 6))) (.cons (.tupE (.cons (.call 28 (.cons (.var 0) (.cons (.var 1) (.cons (.op .sub (.var 2) (.cst (.int 1))) .nil))) []) .nil)) .nil))))) .nil) .nil) (.cons (.ifS (.cm .eq (.var 3) (.cst (.int 7))) (.cons (.ret (.tupE (.cons (.cst (.str (Str.ofString "call"))) (.cons (.ix (.var 1) (.cst (.int 7))) (.cons (.tupE (.cons (.call 26 (.cons (.var 0) (.cons (.var 1) (.cons (.op .sub (.var 2) (.cst (.int 1))) .nil))) []) (.cons (.call 28 (.cons (.var 0) (.cons (.var 1) (.cons (.op .sub (.var 2) (.cst (.int 1))) .nil))) []) .nil))) .nil))))) .nil) .nil) (.cons (.ret (.tupE (.cons (.cst (.str (Str.ofString "read"))) (.cons (.call 27 (.cons (.var 0) (.cons (.var 1) (.cons (.op .sub (.var 2) (.cst (.int 1))) .nil))) []) (.cons (.call 28 (.cons (.var 0) (.cons (.var 1) (.cons (.op .sub (.var 2) (.cst (.int 1))) .nil))) []) .nil))))) .nil))))))))
noncomputable def c__law_atom : Ss := (.cons (.set 2 (.ix (.lstE (.cons (.cst (.str (Str.ofString "atmost"))) (.cons (.cst (.str (Str.ofString "below"))) (.cons (.cst (.str (Str.ofString "same"))) (.cons (.cst (.str (Str.ofString "alike"))) .nil))))) (.call 22 (.cons (.var 0) (.cons (.cst (.int 4)) .nil)) []))) (.cons (.ifS (.cm .eq (.var 2) (.cst (.str (Str.ofString "alike")))) (.cons (.ret (.tupE (.cons (.cst (.str (Str.ofString "same"))) (.cons (.call 26 (.cons (.var 0) (.cons (.var 1) (.cons (.cst (.int 2)) .nil))) []) (.cons (.call 26 (.cons (.var 0) (.cons (.var 1) (.cons (.cst (.int 2)) .nil))) []) .nil))))) .nil) .nil) (.cons (.ret (.tupE (.cons (.var 2) (.cons (.call 28 (.cons (.var 0) (.cons (.var 1) (.cons (.cst (.int 3)) .nil))) []) (.cons (.call 28 (.cons (.var 0) (.cons (.var 1) (.cons (.cst (.int 3)) .nil))) []) .nil))))) .nil)))
noncomputable def c__law_built : Ss := (.cons (.set 3 (.call 22 (.cons (.var 0) (.cons (.cst (.int 5)) .nil)) [])) (.cons (.ifS (.orE (.cm .eq (.var 2) (.cst (.int 0))) (.cm .lt (.var 3) (.cst (.int 2)))) (.cons (.ret (.ix (.var 1) (.call 22 (.cons (.var 0) (.cons (.bt .lenB (.cons (.var 1) .nil)) .nil)) []))) .nil) .nil) (.cons (.ifS (.cm .eq (.var 3) (.cst (.int 2))) (.cons (.ret (.tupE (.cons (.cst (.str (Str.ofString "not"))) (.cons (.call 30 (.cons (.var 0) (.cons (.var 1) (.cons (.op .sub (.var 2) (.cst (.int 1))) .nil))) []) .nil)))) .nil) .nil) (.cons (.set 4 (.comp 2 true 1 [0] [0, 1, 2] (.tupE (.cons (.ix (.lstE (.cons (.cst (.int 2)) (.cons (.cst (.int 3)) (.cons (.cst (.int 1)) (.cons (.cst (.int 2)) (.cons (.cst (.int 0)) .nil)))))) (.call 22 (.cons (.var 0) (.cons (.cst (.int 5)) .nil)) [])) .nil)) .nil (.call 30 (.cons (.var 1) (.cons (.var 2) (.cons (.op .sub (.var 3) (.cst (.int 1))) .nil))) []))) (.cons (.ret (.tupE (.cons (.ix (.lstE (.cons (.cst (.str (Str.ofString "and"))) (.cons (.cst (.str (Str.ofString "or"))) .nil))) (.op .mod (.var 3) (.cst (.int 2)))) (.cons (.bt .tupleB (.cons (.var 4) .nil)) .nil)))) .nil)))))
noncomputable def c__law_value : Ss := (.cons (.ifS (.cm .eq (.ix (.var 0) (.cst (.int 0))) (.cst (.str (Str.ofString "not")))) (.cons (.ret (.op .sub (.cst (.int 2)) (.call 31 (.cons (.ix (.var 0) (.cst (.int 1))) (.cons (.var 1) .nil)) []))) .nil) .nil) (.cons (.ifS (.cm .eq (.ix (.var 0) (.cst (.int 0))) (.cst (.str (Str.ofString "and")))) (.cons (.ret (.bt .minLB (.cons (.op .add (.lstE (.cons (.cst (.int 2)) .nil)) (.comp 1 true 1 [0] [1] (.ix (.var 0) (.cst (.int 1))) .nil (.call 31 (.cons (.var 0) (.cons (.var 1) .nil)) []))) .nil))) .nil) .nil) (.cons (.ifS (.cm .eq (.ix (.var 0) (.cst (.int 0))) (.cst (.str (Str.ofString "or")))) (.cons (.ret (.bt .maxLB (.cons (.op .add (.lstE (.cons (.cst (.int 0)) .nil)) (.comp 1 true 1 [0] [1] (.ix (.var 0) (.cst (.int 1))) .nil (.call 31 (.cons (.var 0) (.cons (.var 1) .nil)) []))) .nil))) .nil) .nil) (.cons (.ret (.mt .getN (.var 1) (.cons (.var 0) (.cons (.cst (.int 1)) .nil)))) .nil))))
noncomputable def c__law_atoms : Ss := (.cons (.set 2 (.call 21 (.cons (.var 1) (.cons (.cst (.int 60)) .nil)) [])) (.cons (.set 3 (.lstE .nil)) (.cons (.forR [4] (.cons (.op .add (.cst (.int 1)) (.call 22 (.cons (.var 2) (.cons (.cst (.int 6)) .nil)) [])) .nil) (.cons (.ifS (.andE (.cm .ne (.var 3) (.lstE .nil)) (.cm .eq (.call 22 (.cons (.var 2) (.cons (.cst (.int 4)) .nil)) []) (.cst (.int 0)))) (.cons (.unp [5, 6, 7] (.ix (.var 3) (.call 22 (.cons (.var 2) (.cons (.bt .lenB (.cons (.var 3) .nil)) .nil)) []))) (.cons (.ex (.mt .append (.var 3) (.cons (.tupE (.cons (.var 5) (.cons (.var 7) (.cons (.var 6) .nil)))) .nil))) .nil)) (.cons (.ifS (.cm .eq (.call 22 (.cons (.var 2) (.cons (.cst (.int 3)) .nil)) []) (.cst (.int 0))) (.cons (.ex (.mt .append (.var 3) (.cons (.tupE (.cons (.cst (.str (Str.ofString "same"))) (.cons (.call 26 (.cons (.var 2) (.cons (.var 0) (.cons (.cst (.int 1)) .nil))) []) (.cons (.call 26 (.cons (.var 2) (.cons (.var 0) (.cons (.cst (.int 0)) .nil))) []) .nil)))) .nil))) .nil) (.cons (.set 5 (.ix (.lstE (.cons (.cst (.str (Str.ofString "atmost"))) (.cons (.cst (.str (Str.ofString "below"))) (.cons (.cst (.str (Str.ofString "same"))) .nil)))) (.call 22 (.cons (.var 2) (.cons (.cst (.int 3)) .nil)) []))) (.cons (.ex (.mt .append (.var 3) (.cons (.tupE (.cons (.var 5) (.cons (.tupE (.cons (.cst (.str (Str.ofString "unknown"))) (.cons (.ix (.var 0) (.call 22 (.cons (.var 2) (.cons (.cst (.int 4)) .nil)) [])) .nil))) (.cons (.tupE (.cons (.cst (.str (Str.ofString "number"))) (.cons (.call 25 (.cons (.var 2) .nil) []) .nil))) .nil)))) .nil))) .nil))) .nil)) .nil)) (.cons (.ret (.var 3)) .nil))))
noncomputable def c_law : Ss := (.cons (.set 1 (.call 23 (.cons (.call 20 (.cons (.var 0) (.cons (.cst (.int 0)) .nil)) []) .nil) [])) (.cons (.set 2 (.call 32 (.cons (.var 1) (.cons (.op .fdiv (.call 20 (.cons (.var 0) (.cons (.cst (.int 0)) .nil)) []) (.cst (.int 3))) .nil)) [])) (.cons (.set 3 (.call 21 (.cons (.call 20 (.cons (.var 0) (.cons (.cst (.int 1)) .nil)) []) (.cons (.cst (.int 30)) .nil)) [])) (.cons (.set 4 (.lstE .nil)) (.cons (.forR [5] (.cons (.call 22 (.cons (.var 3) (.cons (.cst (.int 9)) .nil)) []) .nil) (.cons (.ex (.mt .append (.var 4) (.cons (.tupE (.cons (.ix (.var 2) (.call 22 (.cons (.var 3) (.cons (.bt .lenB (.cons (.var 2) .nil)) .nil)) [])) (.cons (.cm .eq (.call 22 (.cons (.var 3) (.cons (.cst (.int 2)) .nil)) []) (.cst (.int 1))) .nil))) .nil))) .nil)) (.cons (.set 6 .dnewN) (.cons (.forS [7, 8] false false (.var 4) (.cons (.ex (.mt .sdefN (.var 6) (.cons (.var 7) (.cons (.op .mul (.cst (.int 2)) (.bt .intB (.cons (.var 8) .nil))) .nil)))) .nil)) (.cons (.forS [9] true false (.sl 3 (.var 0) (.cons (.cst (.int 2)) (.cons (.cst (.int 20)) .nil))) (.cons (.set 10 (.call 30 (.cons (.call 21 (.cons (.var 9) (.cons (.cst (.int 60)) .nil)) []) (.cons (.var 2) (.cons (.cst (.int 3)) .nil))) [])) (.cons (.set 11 (.cm .eq (.call 31 (.cons (.var 10) (.cons (.var 6) .nil)) []) (.cst (.int 0)))) (.cons (.set 12 (.lstE (.cons (.call 19 (.cons (.var 10) (.cons (.bt .tupleB (.cons (.var 4) .nil)) .nil)) []) (.cons (.call 19 (.cons (.tupE (.cons (.cst (.str (Str.ofString "not"))) (.cons (.tupE (.cons (.cst (.str (Str.ofString "not"))) (.cons (.var 10) .nil))) .nil))) (.cons (.bt .tupleB (.cons (.var 4) .nil)) .nil)) []) .nil)))) (.cons (.ex (.mt .append (.var 12) (.cons (.call 19 (.cons (.var 10) (.cons (.tupE .nil) .nil)) []) .nil))) (.cons (.ifS (.notE (.bt .allB (.cons (.comp 0 true 1 [0] [] (.var 12) .nil (.isi (.var 0) (.b "bool"))) .nil))) (.cons (.ret (.cst (.bl false))) .nil) .nil) (.cons (.ifS (.cm .ne (.var 12) (.lstE (.cons (.var 11) (.cons (.var 11) (.cons (.cm .eq (.call 31 (.cons (.var 10) (.cons .dnewN .nil)) []) (.cst (.int 0))) .nil))))) (.cons (.ret (.cst (.bl false))) .nil) .nil) .nil))))))) (.cons (.ret (.cst (.bl true))) .nil)))))))))
noncomputable def fns : List Fn := [⟨1, 1, c__wall⟩, ⟨1, 2, c_terms_in⟩, ⟨1, 1, c_label_of⟩, ⟨1, 1, c_Numbering_9__init__⟩, ⟨2, 3, c_Numbering_9number⟩, ⟨1, 1, c_Tellings_9__init__⟩, ⟨2, 5, c_Tellings_9key_of⟩, ⟨2, 2, c_Tellings_9number_of⟩, ⟨3, 4, c_Tellings_9tell⟩, ⟨2, 2, c_Tellings_9back_to⟩, ⟨1, 1, c_Tellings_9many_told⟩, ⟨3, 3, c_Tellings_9has⟩, ⟨2, 3, c_Tellings_9truth_of⟩, ⟨3, 3, c_Tellings_9less⟩, ⟨4, 4, c_Tellings_9fact⟩, ⟨2, 2, c_Tellings_9named⟩, ⟨1, 4, c_tellings_of⟩, ⟨2, 3, c_keyed⟩, ⟨2, 7, c_truth_by⟩, ⟨2, 3, c_is_false⟩, ⟨2, 2, c__law_cell_at⟩, ⟨2, 5, c__law_draws⟩, ⟨2, 2, c__law_taken⟩, ⟨1, 2, c__law_spelt⟩, ⟨1, 5, c__law_lists⟩, ⟨1, 4, c__law_fraction⟩, ⟨3, 4, c__law_thing⟩, ⟨3, 4, c__law_array⟩, ⟨3, 4, c__law_num⟩, ⟨2, 3, c__law_atom⟩, ⟨3, 5, c__law_built⟩, ⟨2, 2, c__law_value⟩, ⟨2, 8, c__law_atoms⟩, ⟨1, 13, c_law⟩]
noncomputable def tab (n : Nat) (t : Ty) : Option Bool := match n with
 | _ => none
theorem tab_b {n : Nat} {x : String} (h : x ≠ "ValueError") : tab n (.b x) = none := by
 unfold tab
 split
 · rfl
section
variable (K : PySem.W.Frag) (mg : Str → Option Value) (ad : Nat → Addr) (fd : Nat → FuncData) (cls : CW)
structure Txt : Prop where
 f_terms_in : FunD K "terms_in" "terms_in" st_terms_in (ad 1) (fd 1)
 m_terms_in : mg "terms_in" = some (.ref (ad 1))
 b_terms_in : Binds K (fd 1) ["term"] []
 f_label_of : FunD K "label_of" "label_of" st_label_of (ad 2) (fd 2)
 m_label_of : mg "label_of" = some (.ref (ad 2))
 b_label_of : Binds K (fd 2) ["term"] []
 f_Numbering_9__init__ : FunD K "__init__" "Numbering.__init__" st_Numbering_9__init__ (ad 3) (fd 3)
 b_Numbering_9__init__ : Binds K (fd 3) ["self"] []
 f_Numbering_9number : FunD K "number" "Numbering.number" st_Numbering_9number (ad 4) (fd 4)
 b_Numbering_9number : Binds K (fd 4) ["self", "term"] []
 f_Tellings_9__init__ : FunD K "__init__" "Tellings.__init__" st_Tellings_9__init__ (ad 5) (fd 5)
 b_Tellings_9__init__ : Binds K (fd 5) ["self"] []
 f_Tellings_9key_of : FunD K "key_of" "Tellings.key_of" st_Tellings_9key_of (ad 6) (fd 6)
 b_Tellings_9key_of : Binds K (fd 6) ["self", "atom"] []
 f_Tellings_9number_of : FunD K "number_of" "Tellings.number_of" st_Tellings_9number_of (ad 7) (fd 7)
 b_Tellings_9number_of : Binds K (fd 7) ["self", "term"] []
 f_Tellings_9tell : FunD K "tell" "Tellings.tell" st_Tellings_9tell (ad 8) (fd 8)
 b_Tellings_9tell : Binds K (fd 8) ["self", "atom", "sign"] []
 f_Tellings_9truth_of : FunD K "truth_of" "Tellings.truth_of" st_Tellings_9truth_of (ad 12) (fd 12)
 b_Tellings_9truth_of : Binds K (fd 12) ["self", "key"] []
 f_tellings_of : FunD K "tellings_of" "tellings_of" st_tellings_of (ad 16) (fd 16)
 m_tellings_of : mg "tellings_of" = some (.ref (ad 16))
 b_tellings_of : Binds K (fd 16) ["path"] []
 f_keyed : FunD K "keyed" "keyed" st_keyed (ad 17) (fd 17)
 m_keyed : mg "keyed" = some (.ref (ad 17))
 b_keyed : Binds K (fd 17) ["tellings", "statement"] []
 f_truth_by : FunD K "truth_by" "truth_by" st_truth_by (ad 18) (fd 18)
 m_truth_by : mg "truth_by" = some (.ref (ad 18))
 b_truth_by : Binds K (fd 18) ["tellings", "thing"] []
 f_is_false : FunD K "is_false" "is_false" st_is_false (ad 19) (fd 19)
 m_is_false : mg "is_false" = some (.ref (ad 19))
 b_is_false : Binds K (fd 19) ["statement", "path"] []
 f__law_cell_at : FunD K "_law_cell_at" "_law_cell_at" st__law_cell_at (ad 20) (fd 20)
 m__law_cell_at : mg "_law_cell_at" = some (.ref (ad 20))
 b__law_cell_at : Binds K (fd 20) ["_law_script", "_law_k"] []
 f__law_draws : FunD K "_law_draws" "_law_draws" st__law_draws (ad 21) (fd 21)
 m__law_draws : mg "_law_draws" = some (.ref (ad 21))
 b__law_draws : Binds K (fd 21) ["_law_cell", "_law_many"] []
 f__law_taken : FunD K "_law_taken" "_law_taken" st__law_taken (ad 22) (fd 22)
 m__law_taken : mg "_law_taken" = some (.ref (ad 22))
 b__law_taken : Binds K (fd 22) ["_law_xs", "_law_size"] []
 f__law_spelt : FunD K "_law_spelt" "_law_spelt" st__law_spelt (ad 23) (fd 23)
 m__law_spelt : mg "_law_spelt" = some (.ref (ad 23))
 b__law_spelt : Binds K (fd 23) ["_law_first"] []
 f__law_fraction : FunD K "_law_fraction" "_law_fraction" st__law_fraction (ad 25) (fd 25)
 m__law_fraction : mg "_law_fraction" = some (.ref (ad 25))
 b__law_fraction : Binds K (fd 25) ["_law_xs"] []
 f__law_thing : FunD K "_law_thing" "_law_thing" st__law_thing (ad 26) (fd 26)
 m__law_thing : mg "_law_thing" = some (.ref (ad 26))
 b__law_thing : Binds K (fd 26) ["_law_xs", "_law_some", "_law_deep"] []
 f__law_built : FunD K "_law_built" "_law_built" st__law_built (ad 30) (fd 30)
 m__law_built : mg "_law_built" = some (.ref (ad 30))
 b__law_built : Binds K (fd 30) ["_law_xs", "_law_atoms_here", "_law_deep"] []
 f__law_value : FunD K "_law_value" "_law_value" st__law_value (ad 31) (fd 31)
 m__law_value : mg "_law_value" = some (.ref (ad 31))
 b__law_value : Binds K (fd 31) ["_law_statement", "_law_known"] []
 f__law_atoms : FunD K "_law_atoms" "_law_atoms" st__law_atoms (ad 32) (fd 32)
 m__law_atoms : mg "_law_atoms" = some (.ref (ad 32))
 b__law_atoms : Binds K (fd 32) ["_law_some", "_law_cell"] []
 f_law : FunD K "law" "law" st_law (ad 33) (fd 33)
 m_law : mg "law" = some (.ref (ad 33))
 b_law : Binds K (fd 33) ["_law_script"] []
 gt_ATOM_WORDS : TupAt K mg "ATOM_WORDS" [.str (Str.ofString "atmost"), .str (Str.ofString "below"), .str (Str.ofString "same")]
 cl_Numbering : Cls K (cls 0)
 cl_Tellings : Cls K (cls 1)
 na_Numbering_numbers : NoAttr K (cls 0) "numbers"
 na_Numbering_terms : NoAttr K (cls 0) "terms"
 na_Tellings_numbering : NoAttr K (cls 1) "numbering"
 na_Tellings_signs : NoAttr K (cls 1) "signs"
 na_Tellings_trail : NoAttr K (cls 1) "trail"
 me_Numbering_number : Meth K (cls 0) "number" (ad 4)
 me_Tellings_key_of : Meth K (cls 1) "key_of" (ad 6)
 me_Tellings_number_of : Meth K (cls 1) "number_of" (ad 7)
 me_Tellings_tell : Meth K (cls 1) "tell" (ad 8)
 me_Tellings_truth_of : Meth K (cls 1) "truth_of" (ad 12)
 k_Numbering : Mk K (cls 0) (ad 3)
 k_Tellings : Mk K (cls 1) (ad 5)
 mc_Numbering : mg "Numbering" = some (.ref (cls 0))
 mc_Tellings : mg "Tellings" = some (.ref (cls 1))
 z_all : mg "all" = none
 z_bool : mg "bool" = none
 z_int : mg "int" = none
 z_isinstance : mg "isinstance" = none
 z_len : mg "len" = none
 z_max : mg "max" = none
 z_min : mg "min" = none
 z_range : mg "range" = none
 z_tuple : mg "tuple" = none
end
section
variable {Pr : Program} {w : World} {K : PySem.W.Frag} {mg : Str → Option Value} {base : Heap} {ad : Nat → Addr} {fd : Nat → FuncData} {cls : CW} {FF : Nat}
structure IH (Pr : Program) (w : World) (K : PySem.W.Frag) (mg : Str → Option Value) (base : Heap) (ad : Nat → Addr) (fd : Nat → FuncData) (cls : CW) (FF n : Nat) : Prop where
 i_terms_in : FnOk Pr w K mg base (CXd Pr w) (2 * n) (ad 1) (fd 1) ["term"] (spD K cls 1 (callD tab fns FF n 1))
 i_label_of : FnOk Pr w K mg base (CXd Pr w) (2 * n) (ad 2) (fd 2) ["term"] (spD K cls 1 (callD tab fns FF n 2))
 i_Numbering_9__init__ : FnOk Pr w K mg base (CXd Pr w) (2 * n) (ad 3) (fd 3) ["self"] (spD K cls 1 (callD tab fns FF n 3))
 i_Numbering_9number : FnOk Pr w K mg base (CXd Pr w) (2 * n) (ad 4) (fd 4) ["self", "term"] (spD K cls 2 (callD tab fns FF n 4))
 i_Tellings_9__init__ : FnOk Pr w K mg base (CXd Pr w) (2 * n) (ad 5) (fd 5) ["self"] (spD K cls 1 (callD tab fns FF n 5))
 i_Tellings_9key_of : FnOk Pr w K mg base (CXd Pr w) (2 * n) (ad 6) (fd 6) ["self", "atom"] (spD K cls 2 (callD tab fns FF n 6))
 i_Tellings_9number_of : FnOk Pr w K mg base (CXd Pr w) (2 * n) (ad 7) (fd 7) ["self", "term"] (spD K cls 2 (callD tab fns FF n 7))
 i_Tellings_9tell : FnOk Pr w K mg base (CXd Pr w) (2 * n) (ad 8) (fd 8) ["self", "atom", "sign"] (spD K cls 3 (callD tab fns FF n 8))
 i_Tellings_9truth_of : FnOk Pr w K mg base (CXd Pr w) (2 * n) (ad 12) (fd 12) ["self", "key"] (spD K cls 2 (callD tab fns FF n 12))
 i_tellings_of : FnOk Pr w K mg base (CXd Pr w) (2 * n) (ad 16) (fd 16) ["path"] (spD K cls 1 (callD tab fns FF n 16))
 i_keyed : FnOk Pr w K mg base (CXd Pr w) (2 * n) (ad 17) (fd 17) ["tellings", "statement"] (spD K cls 2 (callD tab fns FF n 17))
 i_truth_by : FnOk Pr w K mg base (CXd Pr w) (2 * n) (ad 18) (fd 18) ["tellings", "thing"] (spD K cls 2 (callD tab fns FF n 18))
 i_is_false : FnOk Pr w K mg base (CXd Pr w) (2 * n) (ad 19) (fd 19) ["statement", "path"] (spD K cls 2 (callD tab fns FF n 19))
 i__law_cell_at : FnOk Pr w K mg base (CXd Pr w) (2 * n) (ad 20) (fd 20) ["_law_script", "_law_k"] (spD K cls 2 (callD tab fns FF n 20))
 i__law_draws : FnOk Pr w K mg base (CXd Pr w) (2 * n) (ad 21) (fd 21) ["_law_cell", "_law_many"] (spD K cls 2 (callD tab fns FF n 21))
 i__law_taken : FnOk Pr w K mg base (CXd Pr w) (2 * n) (ad 22) (fd 22) ["_law_xs", "_law_size"] (spD K cls 2 (callD tab fns FF n 22))
 i__law_spelt : FnOk Pr w K mg base (CXd Pr w) (2 * n) (ad 23) (fd 23) ["_law_first"] (spD K cls 1 (callD tab fns FF n 23))
 i__law_fraction : FnOk Pr w K mg base (CXd Pr w) (2 * n) (ad 25) (fd 25) ["_law_xs"] (spD K cls 1 (callD tab fns FF n 25))
 i__law_thing : FnOk Pr w K mg base (CXd Pr w) (2 * n) (ad 26) (fd 26) ["_law_xs", "_law_some", "_law_deep"] (spD K cls 3 (callD tab fns FF n 26))
 i__law_built : FnOk Pr w K mg base (CXd Pr w) (2 * n) (ad 30) (fd 30) ["_law_xs", "_law_atoms_here", "_law_deep"] (spD K cls 3 (callD tab fns FF n 30))
 i__law_value : FnOk Pr w K mg base (CXd Pr w) (2 * n) (ad 31) (fd 31) ["_law_statement", "_law_known"] (spD K cls 2 (callD tab fns FF n 31))
 i__law_atoms : FnOk Pr w K mg base (CXd Pr w) (2 * n) (ad 32) (fd 32) ["_law_some", "_law_cell"] (spD K cls 2 (callD tab fns FF n 32))
 i_law : FnOk Pr w K mg base (CXd Pr w) (2 * n) (ad 33) (fd 33) ["_law_script"] (spD K cls 1 (callD tab fns FF n 33))
theorem sc_terms_in : FnScope ["term", "word"] ["term"] (defScope st_terms_in) := ⟨rfl, rfl, rfl, by decide +kernel, rfl, by decide +kernel, by decide +kernel⟩
theorem lv_terms_in_0 : (defScope st_terms_in).names.lookup (Str.ofString "term") = some NameKind.local := by decide +kernel
theorem lv_terms_in_1 : (defScope st_terms_in).names.lookup (Str.ofString "word") = some NameKind.local := by decide +kernel
theorem ok_terms_in {n : Nat} (hw : cls.w = w) (T : Txt K mg ad fd cls) (ih : IH Pr w K mg base ad fd cls FF n) : FnOk Pr w K mg base (CXd Pr w) (2 * (n + 1)) (ad 1) (fd 1) ["term"] (spD K cls 1 (callD tab fns FF (n + 1) 1)) := by
 refine fn_step (m := 2 * n + 1) (body' := c_terms_in) T.f_terms_in sc_terms_in rfl fun cdv A outer s H E hrm => ?_
 have hr := hrm.mono (show 2 * n ≤ 2 * n + 1 by omega)
 have hu := hr.units
 subst hw
 refine ss_cons ?_ ?_
 refine s_set (i := 1) ?_ ?_ ?_ ?_
 exact sc_terms_in.nd
 rfl
 exact Or.inl lv_terms_in_1
 refine sd_ix ?_ ?_ ?_ ?_ ?_ ?_
 rfl
 rfl
 exact hu
 refine sd_var 0 ?_
 exact pv 0 (hv := Or.inl lv_terms_in_0)
 exact sd_int
 intro _ _; rfl
 refine ss_cons ?_ ?_
 refine s_if ?_ ?_ ?_
 refine sdt_eq ?_ ?_ ?_ ?_
 rfl
 exact hu
 refine sd_var 1 ?_
 exact pv 1 (hv := Or.inl lv_terms_in_1)
 exact sd_str
 refine ss_cons ?_ ?_
 refine s_ret ?_
 refine sd_ix ?_ ?_ ?_ ?_ ?_ ?_
 rfl
 rfl
 exact hu
 refine sd_var 0 ?_
 exact pv 0 (hv := Or.inl lv_terms_in_0)
 exact sd_int
 intro _ _; rfl
 exact ss_nil
 exact ss_nil
 refine ss_cons ?_ ?_
 refine s_if ?_ ?_ ?_
 refine sdt_eq ?_ ?_ ?_ ?_
 rfl
 exact hu
 refine sd_var 1 ?_
 exact pv 1 (hv := Or.inl lv_terms_in_1)
 exact sd_str
 refine ss_cons ?_ ?_
 refine s_ret ?_
 refine sd_ix ?_ ?_ ?_ ?_ ?_ ?_
 rfl
 rfl
 exact hu
 refine sd_var 0 ?_
 exact pv 0 (hv := Or.inl lv_terms_in_0)
 exact sd_int
 intro _ _; rfl
 exact ss_nil
 exact ss_nil
 refine ss_cons ?_ ?_
 refine s_if ?_ ?_ ?_
 refine sdt_eq ?_ ?_ ?_ ?_
 rfl
 exact hu
 refine sd_var 1 ?_
 exact pv 1 (hv := Or.inl lv_terms_in_1)
 exact sd_str
 refine ss_cons ?_ ?_
 refine s_ret ?_
 refine sd_sl1 ?_ ?_ ?_
 rfl
 refine sd_var 0 ?_
 exact pv 0 (hv := Or.inl lv_terms_in_0)
 exact sd_int
 exact ss_nil
 exact ss_nil
 refine ss_cons ?_ ?_
 refine s_if ?_ ?_ ?_
 refine sdt_in ?_ ?_ ?_ ?_ ?_
 rfl
 rfl
 exact hu
 refine sd_var 1 ?_
 exact pv 1 (hv := Or.inl lv_terms_in_1)
 refine sd_tup ?_
 refine sdl_cons ?_ ?_
 exact sd_str
 refine sdl_cons ?_ ?_
 exact sd_str
 exact sdl_nil
 refine ss_cons ?_ ?_
 refine s_ret ?_
 refine sd_sl1 ?_ ?_ ?_
 rfl
 refine sd_var 0 ?_
 exact pv 0 (hv := Or.inl lv_terms_in_0)
 exact sd_int
 exact ss_nil
 exact ss_nil
 refine ss_cons ?_ ?_
 refine s_ret ?_
 refine sd_tup ?_
 exact sdl_nil
 exact ss_nil
theorem sc_label_of : FnScope ["term"] ["term"] (defScope st_label_of) := ⟨rfl, rfl, rfl, by decide +kernel, rfl, by decide +kernel, by decide +kernel⟩
theorem lv_label_of_0 : (defScope st_label_of).names.lookup (Str.ofString "term") = some NameKind.local := by decide +kernel
theorem ok_label_of {n : Nat} (hw : cls.w = w) (T : Txt K mg ad fd cls) (ih : IH Pr w K mg base ad fd cls FF n) : FnOk Pr w K mg base (CXd Pr w) (2 * (n + 1)) (ad 2) (fd 2) ["term"] (spD K cls 1 (callD tab fns FF (n + 1) 2)) := by
 refine fn_step (m := 2 * n + 1) (body' := c_label_of) T.f_label_of sc_label_of rfl fun cdv A outer s H E hrm => ?_
 have hr := hrm.mono (show 2 * n ≤ 2 * n + 1 by omega)
 have hu := hr.units
 subst hw
 refine ss_cons ?_ ?_
 refine s_if ?_ ?_ ?_
 refine sdt_in ?_ ?_ ?_ ?_ ?_
 rfl
 rfl
 exact hu
 refine sd_ix ?_ ?_ ?_ ?_ ?_ ?_
 rfl
 rfl
 exact hu
 refine sd_var 0 ?_
 exact pv 0 (hv := Or.inl lv_label_of_0)
 exact sd_int
 intro _ _; rfl
 refine sd_tup ?_
 refine sdl_cons ?_ ?_
 exact sd_str
 refine sdl_cons ?_ ?_
 exact sd_str
 refine sdl_cons ?_ ?_
 exact sd_str
 exact sdl_nil
 refine ss_cons ?_ ?_
 refine s_ret ?_
 refine sd_sl2 ?_ ?_ ?_
 rfl
 refine sd_var 0 ?_
 exact pv 0 (hv := Or.inl lv_label_of_0)
 exact sd_int
 exact ss_nil
 exact ss_nil
 refine ss_cons ?_ ?_
 refine s_ret ?_
 refine sd_sl2 ?_ ?_ ?_
 rfl
 refine sd_var 0 ?_
 exact pv 0 (hv := Or.inl lv_label_of_0)
 exact sd_int
 exact ss_nil
theorem sc_Numbering_9__init__ : FnScope ["self"] ["self"] (defScope st_Numbering_9__init__) := ⟨rfl, rfl, rfl, by decide +kernel, rfl, by decide +kernel, by decide +kernel⟩
theorem lv_Numbering_9__init___0 : (defScope st_Numbering_9__init__).names.lookup (Str.ofString "self") = some NameKind.local := by decide +kernel
theorem ok_Numbering_9__init__ {n : Nat} (hw : cls.w = w) (T : Txt K mg ad fd cls) (ih : IH Pr w K mg base ad fd cls FF n) : FnOk Pr w K mg base (CXd Pr w) (2 * (n + 1)) (ad 3) (fd 3) ["self"] (spD K cls 1 (callD tab fns FF (n + 1) 3)) := by
 refine fn_step (m := 2 * n + 1) (body' := c_Numbering_9__init__) T.f_Numbering_9__init__ sc_Numbering_9__init__ rfl fun cdv A outer s H E hrm => ?_
 have hr := hrm.mono (show 2 * n ≤ 2 * n + 1 by omega)
 have hu := hr.units
 subst hw
 refine ss_cons ?_ ?_
 refine s_setf T.cl_Numbering T.na_Numbering_terms ?_ ?_
 refine sd_var 0 ?_
 exact pv 0 (hv := Or.inl lv_Numbering_9__init___0)
 refine sd_lst ?_
 exact sdl_nil
 refine ss_cons ?_ ?_
 refine s_setf T.cl_Numbering T.na_Numbering_numbers ?_ ?_
 refine sd_var 0 ?_
 exact pv 0 (hv := Or.inl lv_Numbering_9__init___0)
 refine sd_dnewN ?_
 rfl
 exact ss_nil
theorem sc_Numbering_9number : FnScope ["self", "term", "key"] ["self", "term"] (defScope st_Numbering_9number) := ⟨rfl, rfl, rfl, by decide +kernel, rfl, by decide +kernel, by decide +kernel⟩
theorem lv_Numbering_9number_0 : (defScope st_Numbering_9number).names.lookup (Str.ofString "self") = some NameKind.cell := by decide +kernel
theorem lv_Numbering_9number_1 : (defScope st_Numbering_9number).names.lookup (Str.ofString "term") = some NameKind.local := by decide +kernel
theorem lv_Numbering_9number_2 : (defScope st_Numbering_9number).names.lookup (Str.ofString "key") = some NameKind.local := by decide +kernel
theorem ok_Numbering_9number {n : Nat} (hw : cls.w = w) (T : Txt K mg ad fd cls) (ih : IH Pr w K mg base ad fd cls FF n) : FnOk Pr w K mg base (CXd Pr w) (2 * (n + 1)) (ad 4) (fd 4) ["self", "term"] (spD K cls 2 (callD tab fns FF (n + 1) 4)) := by
 refine fn_step (m := 2 * n + 1) (body' := c_Numbering_9number) T.f_Numbering_9number sc_Numbering_9number rfl fun cdv A outer s H E hrm => ?_
 have hr := hrm.mono (show 2 * n ≤ 2 * n + 1 by omega)
 have hu := hr.units
 subst hw
 refine ss_cons ?_ ?_
 refine s_set (i := 2) ?_ ?_ ?_ ?_
 exact sc_Numbering_9number.nd
 rfl
 exact Or.inl lv_Numbering_9number_2
 refine sd_tup ?_
 refine sdl_cons ?_ ?_
 refine sd_call ih.i_label_of hr (by rfl) T.m_label_of T.f_label_of.kp T.b_label_of .nil (fun _ _ => by simp [DD.RepL, DD.Rep]) pass_def (callD_len rfl) ?_
 refine sdl_cons ?_ ?_
 refine sd_var 1 ?_
 exact pv 1 (hv := Or.inl lv_Numbering_9number_1)
 exact sdl_nil
 refine sdl_cons ?_ ?_
 refine sd_tuple ?_ ?_ T.z_tuple ?_
 rfl
 rfl
 refine sdl_cons ?_ ?_
 refine sd_compG (cl := [(Str.ofString "self", s.heap.objs.size + 1)]) (N := ["part", "self"]) (nl := 1) (fv := [0]) (tgs := [0]) (one := true) (k := 1) ?_ ?_ ?_ ?_ ?_ ?_ ?_ ?_ ?_ ?_ ?_ ?_ ?_ ?_
 rfl
 rfl
 rfl
 decide
 decide
 rfl
 refine clos_of ?_ ?_
 exact ⟨rfl, trivial⟩
 rfl
 rfl
 refine fv_of ?_
 exact ⟨⟨_, _, rfl, rfl, rfl, by first | exact Or.inl rfl | exact Or.inr rfl, by first | exact Or.inl rfl | exact Or.inr rfl⟩, trivial⟩
 decide
 refine si_tup ?_ ?_
 rfl
 refine sd_call ih.i_terms_in hr (by rfl) T.m_terms_in T.f_terms_in.kp T.b_terms_in .nil (fun _ _ => by simp [DD.RepL, DD.Rep]) pass_def (callD_len rfl) ?_
 refine sdl_cons ?_ ?_
 refine sd_var 1 ?_
 exact pv 1 (hv := Or.inl lv_Numbering_9number_1)
 exact sdl_nil
 intro L s0 H0 fp pn
 refine tg_one ?_ ?_ ?_ ?_
 show List.Nodup (["part", "self"] : List Str); decide
 rfl
 exact Or.inl rfl
 refine Or.inr ?_
 exact rfl
 intro L s0 H0 fp pn
 exact pts_nil
 intro L s0 H0 fp pn
 refine sd_meth (k := 2 * n) (np := 2) T.cl_Numbering T.me_Numbering_number ?_ ?_ T.b_Numbering_9number ?_ ?_ ?_ ?_
 exact ih.i_Numbering_9number
 exact hr
 exact passF
 exact callD_len rfl
 refine sd_var 1 ?_
 exact pv 1 (hv := by first | exact Or.inl rfl | exact Or.inr (Or.inl rfl) | exact Or.inr (Or.inr rfl))
 refine sdl_cons ?_ ?_
 refine sd_var 0 ?_
 exact pv 0 (hv := by first | exact Or.inl rfl | exact Or.inr (Or.inl rfl) | exact Or.inr (Or.inr rfl))
 exact sdl_nil
 exact sdl_nil
 exact sdl_nil
 refine ss_cons ?_ ?_
 refine s_if ?_ ?_ ?_
 refine sdt_notIn ?_ ?_ ?_ ?_ ?_
 rfl
 rfl
 exact hu
 refine sd_var 2 ?_
 exact pv 2 (hv := Or.inl lv_Numbering_9number_2)
 refine sd_fld T.cl_Numbering T.na_Numbering_numbers ?_
 refine sd_var 0 ?_
 exact pv 0 (hv := Or.inr (Or.inl lv_Numbering_9number_0))
 refine ss_cons ?_ ?_
 refine s_dput ?_ ?_ ?_ ?_ ?_ ?_
 rfl
 rfl
 exact hu
 refine sd_fld T.cl_Numbering T.na_Numbering_numbers ?_
 refine sd_var 0 ?_
 exact pv 0 (hv := Or.inr (Or.inl lv_Numbering_9number_0))
 refine sd_var 2 ?_
 exact pv 2 (hv := Or.inl lv_Numbering_9number_2)
 refine sd_len ?_ ?_ T.z_len ?_
 rfl
 rfl
 refine sdl_cons ?_ ?_
 refine sd_fld T.cl_Numbering T.na_Numbering_terms ?_
 refine sd_var 0 ?_
 exact pv 0 (hv := Or.inr (Or.inl lv_Numbering_9number_0))
 exact sdl_nil
 refine ss_cons ?_ ?_
 refine s_ex ?_
 refine sd_append ?_ ?_ ?_
 rfl
 refine sd_fld T.cl_Numbering T.na_Numbering_terms ?_
 refine sd_var 0 ?_
 exact pv 0 (hv := Or.inr (Or.inl lv_Numbering_9number_0))
 refine sd_var 1 ?_
 exact pv 1 (hv := Or.inl lv_Numbering_9number_1)
 exact ss_nil
 exact ss_nil
 refine ss_cons ?_ ?_
 refine s_ret ?_
 refine sd_ix ?_ ?_ ?_ ?_ ?_ ?_
 rfl
 rfl
 exact hu
 refine sd_fld T.cl_Numbering T.na_Numbering_numbers ?_
 refine sd_var 0 ?_
 exact pv 0 (hv := Or.inr (Or.inl lv_Numbering_9number_0))
 refine sd_var 2 ?_
 exact pv 2 (hv := Or.inl lv_Numbering_9number_2)
 intro _ _; rfl
 exact ss_nil
theorem sc_Tellings_9__init__ : FnScope ["self"] ["self"] (defScope st_Tellings_9__init__) := ⟨rfl, rfl, rfl, by decide +kernel, rfl, by decide +kernel, by decide +kernel⟩
theorem lv_Tellings_9__init___0 : (defScope st_Tellings_9__init__).names.lookup (Str.ofString "self") = some NameKind.local := by decide +kernel
theorem ok_Tellings_9__init__ {n : Nat} (hw : cls.w = w) (T : Txt K mg ad fd cls) (ih : IH Pr w K mg base ad fd cls FF n) : FnOk Pr w K mg base (CXd Pr w) (2 * (n + 1)) (ad 5) (fd 5) ["self"] (spD K cls 1 (callD tab fns FF (n + 1) 5)) := by
 refine fn_step (m := 2 * n + 1) (body' := c_Tellings_9__init__) T.f_Tellings_9__init__ sc_Tellings_9__init__ rfl fun cdv A outer s H E hrm => ?_
 have hr := hrm.mono (show 2 * n ≤ 2 * n + 1 by omega)
 have hu := hr.units
 subst hw
 refine ss_cons ?_ ?_
 refine s_setf T.cl_Tellings T.na_Tellings_numbering ?_ ?_
 refine sd_var 0 ?_
 exact pv 0 (hv := Or.inl lv_Tellings_9__init___0)
 refine sd_mk0 (k := 2 * n) (np := 1) T.k_Numbering ?_ ?_ ?_ T.mc_Numbering T.b_Numbering_9__init__ ?_ ?_
 exact ih.i_Numbering_9__init__
 exact hrm
 rfl
 exact pass_def
 exact callD_len rfl
 refine ss_cons ?_ ?_
 refine s_setf T.cl_Tellings T.na_Tellings_trail ?_ ?_
 refine sd_var 0 ?_
 exact pv 0 (hv := Or.inl lv_Tellings_9__init___0)
 refine sd_lst ?_
 exact sdl_nil
 refine ss_cons ?_ ?_
 refine s_setf T.cl_Tellings T.na_Tellings_signs ?_ ?_
 refine sd_var 0 ?_
 exact pv 0 (hv := Or.inl lv_Tellings_9__init___0)
 refine sd_dnewN ?_
 rfl
 exact ss_nil
theorem sc_Tellings_9key_of : FnScope ["self", "atom", "word", "one", "other"] ["self", "atom"] (defScope st_Tellings_9key_of) := ⟨rfl, rfl, rfl, by decide +kernel, rfl, by decide +kernel, by decide +kernel⟩
theorem lv_Tellings_9key_of_0 : (defScope st_Tellings_9key_of).names.lookup (Str.ofString "self") = some NameKind.local := by decide +kernel
theorem lv_Tellings_9key_of_1 : (defScope st_Tellings_9key_of).names.lookup (Str.ofString "atom") = some NameKind.local := by decide +kernel
theorem lv_Tellings_9key_of_2 : (defScope st_Tellings_9key_of).names.lookup (Str.ofString "word") = some NameKind.local := by decide +kernel
theorem lv_Tellings_9key_of_3 : (defScope st_Tellings_9key_of).names.lookup (Str.ofString "one") = some NameKind.local := by decide +kernel
theorem lv_Tellings_9key_of_4 : (defScope st_Tellings_9key_of).names.lookup (Str.ofString "other") = some NameKind.local := by decide +kernel
theorem ok_Tellings_9key_of {n : Nat} (hw : cls.w = w) (T : Txt K mg ad fd cls) (ih : IH Pr w K mg base ad fd cls FF n) : FnOk Pr w K mg base (CXd Pr w) (2 * (n + 1)) (ad 6) (fd 6) ["self", "atom"] (spD K cls 2 (callD tab fns FF (n + 1) 6)) := by
 refine fn_step (m := 2 * n + 1) (body' := c_Tellings_9key_of) T.f_Tellings_9key_of sc_Tellings_9key_of rfl fun cdv A outer s H E hrm => ?_
 have hr := hrm.mono (show 2 * n ≤ 2 * n + 1 by omega)
 have hu := hr.units
 subst hw
 refine ss_cons ?_ ?_
 refine s_unp (is := [2, 3, 4]) ?_ ?_
 refine sd_var 1 ?_
 exact pv 1 (hv := Or.inl lv_Tellings_9key_of_1)
 refine pg_tup ?_ ?_
 rfl
 refine pgs_cons ?_ ?_
 refine pg_name (i := 2) ?_ ?_ ?_
 exact sc_Tellings_9key_of.nd
 rfl
 exact Or.inl lv_Tellings_9key_of_2
 refine pgs_cons ?_ ?_
 refine pg_name (i := 3) ?_ ?_ ?_
 exact sc_Tellings_9key_of.nd
 rfl
 exact Or.inl lv_Tellings_9key_of_3
 refine pgs_cons ?_ ?_
 refine pg_name (i := 4) ?_ ?_ ?_
 exact sc_Tellings_9key_of.nd
 rfl
 exact Or.inl lv_Tellings_9key_of_4
 exact pgs_nil
 refine ss_cons ?_ ?_
 refine s_ret ?_
 refine sd_tup ?_
 refine sdl_cons ?_ ?_
 refine sd_var 2 ?_
 exact pv 2 (hv := Or.inl lv_Tellings_9key_of_2)
 refine sdl_cons ?_ ?_
 refine sd_meth (k := 2 * n) (np := 2) T.cl_Tellings T.me_Tellings_number_of ?_ ?_ T.b_Tellings_9number_of ?_ ?_ ?_ ?_
 exact ih.i_Tellings_9number_of
 exact hr
 exact pass_def
 exact callD_len rfl
 refine sd_var 0 ?_
 exact pv 0 (hv := Or.inl lv_Tellings_9key_of_0)
 refine sdl_cons ?_ ?_
 refine sd_var 3 ?_
 exact pv 3 (hv := Or.inl lv_Tellings_9key_of_3)
 exact sdl_nil
 refine sdl_cons ?_ ?_
 refine sd_meth (k := 2 * n) (np := 2) T.cl_Tellings T.me_Tellings_number_of ?_ ?_ T.b_Tellings_9number_of ?_ ?_ ?_ ?_
 exact ih.i_Tellings_9number_of
 exact hr
 exact pass_def
 exact callD_len rfl
 refine sd_var 0 ?_
 exact pv 0 (hv := Or.inl lv_Tellings_9key_of_0)
 refine sdl_cons ?_ ?_
 refine sd_var 4 ?_
 exact pv 4 (hv := Or.inl lv_Tellings_9key_of_4)
 exact sdl_nil
 exact sdl_nil
 exact ss_nil
theorem sc_Tellings_9number_of : FnScope ["self", "term"] ["self", "term"] (defScope st_Tellings_9number_of) := ⟨rfl, rfl, rfl, by decide +kernel, rfl, by decide +kernel, by decide +kernel⟩
theorem lv_Tellings_9number_of_0 : (defScope st_Tellings_9number_of).names.lookup (Str.ofString "self") = some NameKind.local := by decide +kernel
theorem lv_Tellings_9number_of_1 : (defScope st_Tellings_9number_of).names.lookup (Str.ofString "term") = some NameKind.local := by decide +kernel
theorem ok_Tellings_9number_of {n : Nat} (hw : cls.w = w) (T : Txt K mg ad fd cls) (ih : IH Pr w K mg base ad fd cls FF n) : FnOk Pr w K mg base (CXd Pr w) (2 * (n + 1)) (ad 7) (fd 7) ["self", "term"] (spD K cls 2 (callD tab fns FF (n + 1) 7)) := by
 refine fn_step (m := 2 * n + 1) (body' := c_Tellings_9number_of) T.f_Tellings_9number_of sc_Tellings_9number_of rfl fun cdv A outer s H E hrm => ?_
 have hr := hrm.mono (show 2 * n ≤ 2 * n + 1 by omega)
 have hu := hr.units
 subst hw
 refine ss_cons ?_ ?_
 refine s_ret ?_
 refine sd_meth (k := 2 * n) (np := 2) T.cl_Numbering T.me_Numbering_number ?_ ?_ T.b_Numbering_9number ?_ ?_ ?_ ?_
 exact ih.i_Numbering_9number
 exact hr
 exact pass_def
 exact callD_len rfl
 refine sd_fld T.cl_Tellings T.na_Tellings_numbering ?_
 refine sd_var 0 ?_
 exact pv 0 (hv := Or.inl lv_Tellings_9number_of_0)
 refine sdl_cons ?_ ?_
 refine sd_var 1 ?_
 exact pv 1 (hv := Or.inl lv_Tellings_9number_of_1)
 exact sdl_nil
 exact ss_nil
theorem sc_Tellings_9tell : FnScope ["self", "atom", "sign", "key"] ["self", "atom", "sign"] (defScope st_Tellings_9tell) := ⟨rfl, rfl, rfl, by decide +kernel, rfl, by decide +kernel, by decide +kernel⟩
theorem lv_Tellings_9tell_0 : (defScope st_Tellings_9tell).names.lookup (Str.ofString "self") = some NameKind.local := by decide +kernel
theorem lv_Tellings_9tell_1 : (defScope st_Tellings_9tell).names.lookup (Str.ofString "atom") = some NameKind.local := by decide +kernel
theorem lv_Tellings_9tell_2 : (defScope st_Tellings_9tell).names.lookup (Str.ofString "sign") = some NameKind.local := by decide +kernel
theorem lv_Tellings_9tell_3 : (defScope st_Tellings_9tell).names.lookup (Str.ofString "key") = some NameKind.local := by decide +kernel
theorem ok_Tellings_9tell {n : Nat} (hw : cls.w = w) (T : Txt K mg ad fd cls) (ih : IH Pr w K mg base ad fd cls FF n) : FnOk Pr w K mg base (CXd Pr w) (2 * (n + 1)) (ad 8) (fd 8) ["self", "atom", "sign"] (spD K cls 3 (callD tab fns FF (n + 1) 8)) := by
 refine fn_step (m := 2 * n + 1) (body' := c_Tellings_9tell) T.f_Tellings_9tell sc_Tellings_9tell rfl fun cdv A outer s H E hrm => ?_
 have hr := hrm.mono (show 2 * n ≤ 2 * n + 1 by omega)
 have hu := hr.units
 subst hw
 refine ss_cons ?_ ?_
 refine s_set (i := 3) ?_ ?_ ?_ ?_
 exact sc_Tellings_9tell.nd
 rfl
 exact Or.inl lv_Tellings_9tell_3
 refine sd_meth (k := 2 * n) (np := 2) T.cl_Tellings T.me_Tellings_key_of ?_ ?_ T.b_Tellings_9key_of ?_ ?_ ?_ ?_
 exact ih.i_Tellings_9key_of
 exact hr
 exact pass_def
 exact callD_len rfl
 refine sd_var 0 ?_
 exact pv 0 (hv := Or.inl lv_Tellings_9tell_0)
 refine sdl_cons ?_ ?_
 refine sd_var 1 ?_
 exact pv 1 (hv := Or.inl lv_Tellings_9tell_1)
 exact sdl_nil
 refine ss_cons ?_ ?_
 refine s_ex ?_
 refine sd_append ?_ ?_ ?_
 rfl
 refine sd_fld T.cl_Tellings T.na_Tellings_trail ?_
 refine sd_var 0 ?_
 exact pv 0 (hv := Or.inl lv_Tellings_9tell_0)
 refine sd_var 3 ?_
 exact pv 3 (hv := Or.inl lv_Tellings_9tell_3)
 refine ss_cons ?_ ?_
 refine s_ex ?_
 refine sd_append ?_ ?_ ?_
 rfl
 refine sd_sdefN ?_ ?_ ?_ ?_ ?_ ?_ ?_
 rfl
 rfl
 exact hu
 refine sd_fld T.cl_Tellings T.na_Tellings_signs ?_
 refine sd_var 0 ?_
 exact pv 0 (hv := Or.inl lv_Tellings_9tell_0)
 refine sd_var 3 ?_
 exact pv 3 (hv := Or.inl lv_Tellings_9tell_3)
 refine sd_lst ?_
 exact sdl_nil
 exact ⟨by rfl, by rfl, by rfl, by rfl⟩
 refine sd_var 2 ?_
 exact pv 2 (hv := Or.inl lv_Tellings_9tell_2)
 exact ss_nil
theorem sc_Tellings_9truth_of : FnScope ["self", "key", "signs"] ["self", "key"] (defScope st_Tellings_9truth_of) := ⟨rfl, rfl, rfl, by decide +kernel, rfl, by decide +kernel, by decide +kernel⟩
theorem lv_Tellings_9truth_of_0 : (defScope st_Tellings_9truth_of).names.lookup (Str.ofString "self") = some NameKind.local := by decide +kernel
theorem lv_Tellings_9truth_of_1 : (defScope st_Tellings_9truth_of).names.lookup (Str.ofString "key") = some NameKind.local := by decide +kernel
theorem lv_Tellings_9truth_of_2 : (defScope st_Tellings_9truth_of).names.lookup (Str.ofString "signs") = some NameKind.local := by decide +kernel
theorem ok_Tellings_9truth_of {n : Nat} (hw : cls.w = w) (T : Txt K mg ad fd cls) (ih : IH Pr w K mg base ad fd cls FF n) : FnOk Pr w K mg base (CXd Pr w) (2 * (n + 1)) (ad 12) (fd 12) ["self", "key"] (spD K cls 2 (callD tab fns FF (n + 1) 12)) := by
 refine fn_step (m := 2 * n + 1) (body' := c_Tellings_9truth_of) T.f_Tellings_9truth_of sc_Tellings_9truth_of rfl fun cdv A outer s H E hrm => ?_
 have hr := hrm.mono (show 2 * n ≤ 2 * n + 1 by omega)
 have hu := hr.units
 subst hw
 refine ss_cons ?_ ?_
 refine s_set (i := 2) ?_ ?_ ?_ ?_
 exact sc_Tellings_9truth_of.nd
 rfl
 exact Or.inl lv_Tellings_9truth_of_2
 refine sd_getN1 ?_ ?_ ?_ ?_ ?_ ?_
 rfl
 rfl
 exact hu
 refine sd_fld T.cl_Tellings T.na_Tellings_signs ?_
 refine sd_var 0 ?_
 exact pv 0 (hv := Or.inl lv_Tellings_9truth_of_0)
 refine sd_var 1 ?_
 exact pv 1 (hv := Or.inl lv_Tellings_9truth_of_1)
 exact ⟨by rfl, by rfl, by rfl, by rfl⟩
 refine ss_cons ?_ ?_
 refine s_ret ?_
 refine sd_if ?_ ?_ ?_
 refine sdt_val ?_ ?_ ?_ ?_
 rfl
 refine sd_var 2 ?_
 exact pv 2 (hv := Or.inl lv_Tellings_9truth_of_2)
 exact hev_var
 intro _; rfl
 refine sd_ix ?_ ?_ ?_ ?_ ?_ ?_
 rfl
 rfl
 exact hu
 refine sd_var 2 ?_
 exact pv 2 (hv := Or.inl lv_Tellings_9truth_of_2)
 exact sd_int
 intro _ _; rfl
 exact sd_non
 exact ss_nil
theorem sc_tellings_of : FnScope ["path", "tellings", "atom", "sign"] ["path"] (defScope st_tellings_of) := ⟨rfl, rfl, rfl, by decide +kernel, rfl, by decide +kernel, by decide +kernel⟩
theorem lv_tellings_of_0 : (defScope st_tellings_of).names.lookup (Str.ofString "path") = some NameKind.local := by decide +kernel
theorem lv_tellings_of_1 : (defScope st_tellings_of).names.lookup (Str.ofString "tellings") = some NameKind.local := by decide +kernel
theorem lv_tellings_of_2 : (defScope st_tellings_of).names.lookup (Str.ofString "atom") = some NameKind.local := by decide +kernel
theorem lv_tellings_of_3 : (defScope st_tellings_of).names.lookup (Str.ofString "sign") = some NameKind.local := by decide +kernel
theorem ok_tellings_of {n : Nat} (hw : cls.w = w) (T : Txt K mg ad fd cls) (ih : IH Pr w K mg base ad fd cls FF n) : FnOk Pr w K mg base (CXd Pr w) (2 * (n + 1)) (ad 16) (fd 16) ["path"] (spD K cls 1 (callD tab fns FF (n + 1) 16)) := by
 refine fn_step (m := 2 * n + 1) (body' := c_tellings_of) T.f_tellings_of sc_tellings_of rfl fun cdv A outer s H E hrm => ?_
 have hr := hrm.mono (show 2 * n ≤ 2 * n + 1 by omega)
 have hu := hr.units
 subst hw
 refine ss_cons ?_ ?_
 refine s_set (i := 1) ?_ ?_ ?_ ?_
 exact sc_tellings_of.nd
 rfl
 exact Or.inl lv_tellings_of_1
 refine sd_mk0 (k := 2 * n) (np := 1) T.k_Tellings ?_ ?_ ?_ T.mc_Tellings T.b_Tellings_9__init__ ?_ ?_
 exact ih.i_Tellings_9__init__
 exact hrm
 rfl
 exact pass_def
 exact callD_len rfl
 refine ss_cons ?_ ?_
 refine s_forT (is := [2, 3]) ?_ ?_ ?_ ?_ ?_ ?_
 rfl
 exact PassesOwn.leaving
 rfl
 refine sd_var 0 ?_
 exact pv 0 (hv := Or.inl lv_tellings_of_0)
 refine pg_tup ?_ ?_
 rfl
 refine pgs_cons ?_ ?_
 refine pg_name (i := 2) ?_ ?_ ?_
 exact sc_tellings_of.nd
 rfl
 exact Or.inl lv_tellings_of_2
 refine pgs_cons ?_ ?_
 refine pg_name (i := 3) ?_ ?_ ?_
 exact sc_tellings_of.nd
 rfl
 exact Or.inl lv_tellings_of_3
 exact pgs_nil
 refine ss_cons ?_ ?_
 refine s_ex ?_
 refine sd_meth (k := 2 * n) (np := 3) T.cl_Tellings T.me_Tellings_tell ?_ ?_ T.b_Tellings_9tell ?_ ?_ ?_ ?_
 exact ih.i_Tellings_9tell
 exact hr
 exact pass_def
 exact callD_len rfl
 refine sd_var 1 ?_
 exact pv 1 (hv := Or.inl lv_tellings_of_1)
 refine sdl_cons ?_ ?_
 refine sd_var 2 ?_
 exact pv 2 (hv := Or.inl lv_tellings_of_2)
 refine sdl_cons ?_ ?_
 refine sd_var 3 ?_
 exact pv 3 (hv := Or.inl lv_tellings_of_3)
 exact sdl_nil
 exact ss_nil
 refine ss_cons ?_ ?_
 refine s_ret ?_
 refine sd_var 1 ?_
 exact pv 1 (hv := Or.inl lv_tellings_of_1)
 exact ss_nil
theorem sc_keyed : FnScope ["tellings", "statement", "word"] ["tellings", "statement"] (defScope st_keyed) := ⟨rfl, rfl, rfl, by decide +kernel, rfl, by decide +kernel, by decide +kernel⟩
theorem lv_keyed_0 : (defScope st_keyed).names.lookup (Str.ofString "tellings") = some NameKind.cell := by decide +kernel
theorem lv_keyed_1 : (defScope st_keyed).names.lookup (Str.ofString "statement") = some NameKind.local := by decide +kernel
theorem lv_keyed_2 : (defScope st_keyed).names.lookup (Str.ofString "word") = some NameKind.local := by decide +kernel
theorem ok_keyed {n : Nat} (hw : cls.w = w) (T : Txt K mg ad fd cls) (ih : IH Pr w K mg base ad fd cls FF n) : FnOk Pr w K mg base (CXd Pr w) (2 * (n + 1)) (ad 17) (fd 17) ["tellings", "statement"] (spD K cls 2 (callD tab fns FF (n + 1) 17)) := by
 refine fn_step (m := 2 * n + 1) (body' := c_keyed) T.f_keyed sc_keyed rfl fun cdv A outer s H E hrm => ?_
 have hr := hrm.mono (show 2 * n ≤ 2 * n + 1 by omega)
 have hu := hr.units
 subst hw
 refine ss_cons ?_ ?_
 refine s_set (i := 2) ?_ ?_ ?_ ?_
 exact sc_keyed.nd
 rfl
 exact Or.inl lv_keyed_2
 refine sd_ix ?_ ?_ ?_ ?_ ?_ ?_
 rfl
 rfl
 exact hu
 refine sd_var 1 ?_
 exact pv 1 (hv := Or.inl lv_keyed_1)
 exact sd_int
 intro _ _; rfl
 refine ss_cons ?_ ?_
 refine s_if ?_ ?_ ?_
 refine sdt_in ?_ ?_ ?_ ?_ ?_
 rfl
 rfl
 exact hu
 refine sd_var 2 ?_
 exact pv 2 (hv := Or.inl lv_keyed_2)
 exact sd_globT (by rfl) (by rfl) T.gt_ATOM_WORDS (fun _ _ => by simp [DD.G.RepL, DD.RepL, DD.Rep])
 refine ss_cons ?_ ?_
 refine s_ret ?_
 refine sd_tup ?_
 refine sdl_cons ?_ ?_
 exact sd_str
 refine sdl_cons ?_ ?_
 refine sd_meth (k := 2 * n) (np := 2) T.cl_Tellings T.me_Tellings_key_of ?_ ?_ T.b_Tellings_9key_of ?_ ?_ ?_ ?_
 exact ih.i_Tellings_9key_of
 exact hr
 exact pass_def
 exact callD_len rfl
 refine sd_var 0 ?_
 exact pv 0 (hv := Or.inr (Or.inl lv_keyed_0))
 refine sdl_cons ?_ ?_
 refine sd_var 1 ?_
 exact pv 1 (hv := Or.inl lv_keyed_1)
 exact sdl_nil
 exact sdl_nil
 exact ss_nil
 exact ss_nil
 refine ss_cons ?_ ?_
 refine s_if ?_ ?_ ?_
 refine sdt_eq ?_ ?_ ?_ ?_
 rfl
 exact hu
 refine sd_var 2 ?_
 exact pv 2 (hv := Or.inl lv_keyed_2)
 exact sd_str
 refine ss_cons ?_ ?_
 refine s_ret ?_
 refine sd_tup ?_
 refine sdl_cons ?_ ?_
 exact sd_str
 refine sdl_cons ?_ ?_
 refine sd_call ih.i_keyed hr (by rfl) T.m_keyed T.f_keyed.kp T.b_keyed .nil (fun _ _ => by simp [DD.RepL, DD.Rep]) pass_def (callD_len rfl) ?_
 refine sdl_cons ?_ ?_
 refine sd_var 0 ?_
 exact pv 0 (hv := Or.inr (Or.inl lv_keyed_0))
 refine sdl_cons ?_ ?_
 refine sd_ix ?_ ?_ ?_ ?_ ?_ ?_
 rfl
 rfl
 exact hu
 refine sd_var 1 ?_
 exact pv 1 (hv := Or.inl lv_keyed_1)
 exact sd_int
 intro _ _; rfl
 exact sdl_nil
 exact sdl_nil
 exact ss_nil
 exact ss_nil
 refine ss_cons ?_ ?_
 refine s_ret ?_
 refine sd_tup ?_
 refine sdl_cons ?_ ?_
 refine sd_var 2 ?_
 exact pv 2 (hv := Or.inl lv_keyed_2)
 refine sdl_cons ?_ ?_
 refine sd_tuple ?_ ?_ T.z_tuple ?_
 rfl
 rfl
 refine sdl_cons ?_ ?_
 refine sd_compG (cl := [(Str.ofString "tellings", s.heap.objs.size + 1)]) (N := ["part", "tellings"]) (nl := 1) (fv := [0]) (tgs := [0]) (one := true) (k := 1) ?_ ?_ ?_ ?_ ?_ ?_ ?_ ?_ ?_ ?_ ?_ ?_ ?_ ?_
 rfl
 rfl
 rfl
 decide
 decide
 rfl
 refine clos_of ?_ ?_
 exact ⟨rfl, trivial⟩
 rfl
 rfl
 refine fv_of ?_
 exact ⟨⟨_, _, rfl, rfl, rfl, by first | exact Or.inl rfl | exact Or.inr rfl, by first | exact Or.inl rfl | exact Or.inr rfl⟩, trivial⟩
 decide
 refine si_tup ?_ ?_
 rfl
 refine sd_ix ?_ ?_ ?_ ?_ ?_ ?_
 rfl
 rfl
 exact hu
 refine sd_var 1 ?_
 exact pv 1 (hv := Or.inl lv_keyed_1)
 exact sd_int
 intro _ _; rfl
 intro L s0 H0 fp pn
 refine tg_one ?_ ?_ ?_ ?_
 show List.Nodup (["part", "tellings"] : List Str); decide
 rfl
 exact Or.inl rfl
 refine Or.inr ?_
 exact rfl
 intro L s0 H0 fp pn
 exact pts_nil
 intro L s0 H0 fp pn
 refine sd_call ih.i_keyed hr (by rfl) T.m_keyed T.f_keyed.kp T.b_keyed .nil (fun _ _ => by simp [DD.RepL, DD.Rep]) passF (callD_len rfl) ?_
 refine sdl_cons ?_ ?_
 refine sd_var 1 ?_
 exact pv 1 (hv := by first | exact Or.inl rfl | exact Or.inr (Or.inl rfl) | exact Or.inr (Or.inr rfl))
 refine sdl_cons ?_ ?_
 refine sd_var 0 ?_
 exact pv 0 (hv := by first | exact Or.inl rfl | exact Or.inr (Or.inl rfl) | exact Or.inr (Or.inr rfl))
 exact sdl_nil
 exact sdl_nil
 exact sdl_nil
 exact ss_nil
theorem sc_truth_by : FnScope ["tellings", "thing", "word", "inner", "truth", "truths", "settling"] ["tellings", "thing"] (defScope st_truth_by) := ⟨rfl, rfl, rfl, by decide +kernel, rfl, by decide +kernel, by decide +kernel⟩
theorem lv_truth_by_0 : (defScope st_truth_by).names.lookup (Str.ofString "tellings") = some NameKind.cell := by decide +kernel
theorem lv_truth_by_1 : (defScope st_truth_by).names.lookup (Str.ofString "thing") = some NameKind.local := by decide +kernel
theorem lv_truth_by_2 : (defScope st_truth_by).names.lookup (Str.ofString "word") = some NameKind.local := by decide +kernel
theorem lv_truth_by_3 : (defScope st_truth_by).names.lookup (Str.ofString "inner") = some NameKind.local := by decide +kernel
theorem lv_truth_by_4 : (defScope st_truth_by).names.lookup (Str.ofString "truth") = some NameKind.local := by decide +kernel
theorem lv_truth_by_5 : (defScope st_truth_by).names.lookup (Str.ofString "truths") = some NameKind.local := by decide +kernel
theorem lv_truth_by_6 : (defScope st_truth_by).names.lookup (Str.ofString "settling") = some NameKind.local := by decide +kernel
theorem ok_truth_by {n : Nat} (hw : cls.w = w) (T : Txt K mg ad fd cls) (ih : IH Pr w K mg base ad fd cls FF n) : FnOk Pr w K mg base (CXd Pr w) (2 * (n + 1)) (ad 18) (fd 18) ["tellings", "thing"] (spD K cls 2 (callD tab fns FF (n + 1) 18)) := by
 refine fn_step (m := 2 * n + 1) (body' := c_truth_by) T.f_truth_by sc_truth_by rfl fun cdv A outer s H E hrm => ?_
 have hr := hrm.mono (show 2 * n ≤ 2 * n + 1 by omega)
 have hu := hr.units
 subst hw
 refine ss_cons ?_ ?_
 refine s_unp (is := [2, 3]) ?_ ?_
 refine sd_var 1 ?_
 exact pv 1 (hv := Or.inl lv_truth_by_1)
 refine pg_tup ?_ ?_
 rfl
 refine pgs_cons ?_ ?_
 refine pg_name (i := 2) ?_ ?_ ?_
 exact sc_truth_by.nd
 rfl
 exact Or.inl lv_truth_by_2
 refine pgs_cons ?_ ?_
 refine pg_name (i := 3) ?_ ?_ ?_
 exact sc_truth_by.nd
 rfl
 exact Or.inl lv_truth_by_3
 exact pgs_nil
 refine ss_cons ?_ ?_
 refine s_if ?_ ?_ ?_
 refine sdt_eq ?_ ?_ ?_ ?_
 rfl
 exact hu
 refine sd_var 2 ?_
 exact pv 2 (hv := Or.inl lv_truth_by_2)
 exact sd_str
 refine ss_cons ?_ ?_
 refine s_ret ?_
 refine sd_meth (k := 2 * n) (np := 2) T.cl_Tellings T.me_Tellings_truth_of ?_ ?_ T.b_Tellings_9truth_of ?_ ?_ ?_ ?_
 exact ih.i_Tellings_9truth_of
 exact hr
 exact pass_def
 exact callD_len rfl
 refine sd_var 0 ?_
 exact pv 0 (hv := Or.inr (Or.inl lv_truth_by_0))
 refine sdl_cons ?_ ?_
 refine sd_var 3 ?_
 exact pv 3 (hv := Or.inl lv_truth_by_3)
 exact sdl_nil
 exact ss_nil
 exact ss_nil
 refine ss_cons ?_ ?_
 refine s_if ?_ ?_ ?_
 refine sdt_eq ?_ ?_ ?_ ?_
 rfl
 exact hu
 refine sd_var 2 ?_
 exact pv 2 (hv := Or.inl lv_truth_by_2)
 exact sd_str
 refine ss_cons ?_ ?_
 refine s_set (i := 4) ?_ ?_ ?_ ?_
 exact sc_truth_by.nd
 rfl
 exact Or.inl lv_truth_by_4
 refine sd_call ih.i_truth_by hr (by rfl) T.m_truth_by T.f_truth_by.kp T.b_truth_by .nil (fun _ _ => by simp [DD.RepL, DD.Rep]) pass_def (callD_len rfl) ?_
 refine sdl_cons ?_ ?_
 refine sd_var 0 ?_
 exact pv 0 (hv := Or.inr (Or.inl lv_truth_by_0))
 refine sdl_cons ?_ ?_
 refine sd_var 3 ?_
 exact pv 3 (hv := Or.inl lv_truth_by_3)
 exact sdl_nil
 refine ss_cons ?_ ?_
 refine s_ret ?_
 refine sd_if ?_ ?_ ?_
 refine sdt_isN ?_ ?_ ?_ ?_ ?_
 rfl
 rfl
 exact hu
 refine sd_var 4 ?_
 exact pv 4 (hv := Or.inl lv_truth_by_4)
 exact sd_non
 exact sd_non
 refine sd_not ?_
 refine sd_var 4 ?_
 exact pv 4 (hv := Or.inl lv_truth_by_4)
 exact ss_nil
 exact ss_nil
 refine ss_cons ?_ ?_
 refine s_setC (i := 5) (hNd := sc_truth_by.nd) (hix := by rfl) (hx := lv_truth_by_5) (cl := [(Str.ofString "tellings", s.heap.objs.size + 1)]) (N := ["part", "tellings"]) (nl := 1) (fv := [0]) (tgs := [0]) (one := true) (k := 1) ?_ ?_ ?_ ?_ ?_ ?_ ?_ ?_ ?_ ?_ ?_ ?_ ?_ ?_
 rfl
 rfl
 rfl
 decide
 decide
 rfl
 refine clos_of ?_ ?_
 exact ⟨rfl, trivial⟩
 rfl
 rfl
 refine fv_of ?_
 exact ⟨⟨_, _, rfl, rfl, rfl, by first | exact Or.inl rfl | exact Or.inr rfl, by first | exact Or.inl rfl | exact Or.inr rfl⟩, trivial⟩
 decide
 refine si_tup ?_ ?_
 rfl
 refine sd_var 3 ?_
 exact pv 3 (hv := Or.inl lv_truth_by_3)
 intro L s0 H0 fp pn
 refine tg_one ?_ ?_ ?_ ?_
 show List.Nodup (["part", "tellings"] : List Str); decide
 rfl
 exact Or.inl rfl
 refine Or.inr ?_
 exact rfl
 intro L s0 H0 fp pn
 exact pts_nil
 intro L s0 H0 fp pn
 refine sd_call ih.i_truth_by hr (by rfl) T.m_truth_by T.f_truth_by.kp T.b_truth_by .nil (fun _ _ => by simp [DD.RepL, DD.Rep]) passF (callD_len rfl) ?_
 refine sdl_cons ?_ ?_
 refine sd_var 1 ?_
 exact pv 1 (hv := by first | exact Or.inl rfl | exact Or.inr (Or.inl rfl) | exact Or.inr (Or.inr rfl))
 refine sdl_cons ?_ ?_
 refine sd_var 0 ?_
 exact pv 0 (hv := by first | exact Or.inl rfl | exact Or.inr (Or.inl rfl) | exact Or.inr (Or.inr rfl))
 exact sdl_nil
 refine ss_cons ?_ ?_
 refine s_set (i := 6) ?_ ?_ ?_ ?_
 exact sc_truth_by.nd
 rfl
 exact Or.inl lv_truth_by_6
 refine sd_eq ?_ ?_ ?_ ?_
 rfl
 exact hu
 refine sd_var 2 ?_
 exact pv 2 (hv := Or.inl lv_truth_by_2)
 exact sd_str
 refine ss_cons ?_ ?_
 refine s_if ?_ ?_ ?_
 refine sdt_in ?_ ?_ ?_ ?_ ?_
 rfl
 rfl
 exact hu
 refine sd_var 6 ?_
 exact pv 6 (hv := Or.inl lv_truth_by_6)
 refine sd_var 5 ?_
 exact pv 5 (hv := Or.inl lv_truth_by_5)
 refine ss_cons ?_ ?_
 refine s_ret ?_
 refine sd_var 6 ?_
 exact pv 6 (hv := Or.inl lv_truth_by_6)
 exact ss_nil
 exact ss_nil
 refine ss_cons ?_ ?_
 refine s_ret ?_
 refine sd_if ?_ ?_ ?_
 refine sdt_in ?_ ?_ ?_ ?_ ?_
 rfl
 rfl
 exact hu
 exact sd_non
 refine sd_var 5 ?_
 exact pv 5 (hv := Or.inl lv_truth_by_5)
 exact sd_non
 refine sd_not ?_
 refine sd_var 6 ?_
 exact pv 6 (hv := Or.inl lv_truth_by_6)
 exact ss_nil
theorem sc_is_false : FnScope ["statement", "path", "tellings"] ["statement", "path"] (defScope st_is_false) := ⟨rfl, rfl, rfl, by decide +kernel, rfl, by decide +kernel, by decide +kernel⟩
theorem lv_is_false_0 : (defScope st_is_false).names.lookup (Str.ofString "statement") = some NameKind.local := by decide +kernel
theorem lv_is_false_1 : (defScope st_is_false).names.lookup (Str.ofString "path") = some NameKind.local := by decide +kernel
theorem lv_is_false_2 : (defScope st_is_false).names.lookup (Str.ofString "tellings") = some NameKind.local := by decide +kernel
theorem ok_is_false {n : Nat} (hw : cls.w = w) (T : Txt K mg ad fd cls) (ih : IH Pr w K mg base ad fd cls FF n) : FnOk Pr w K mg base (CXd Pr w) (2 * (n + 1)) (ad 19) (fd 19) ["statement", "path"] (spD K cls 2 (callD tab fns FF (n + 1) 19)) := by
 refine fn_step (m := 2 * n + 1) (body' := c_is_false) T.f_is_false sc_is_false rfl fun cdv A outer s H E hrm => ?_
 have hr := hrm.mono (show 2 * n ≤ 2 * n + 1 by omega)
 have hu := hr.units
 subst hw
 refine ss_cons ?_ ?_
 refine s_set (i := 2) ?_ ?_ ?_ ?_
 exact sc_is_false.nd
 rfl
 exact Or.inl lv_is_false_2
 refine sd_call ih.i_tellings_of hr (by rfl) T.m_tellings_of T.f_tellings_of.kp T.b_tellings_of .nil (fun _ _ => by simp [DD.RepL, DD.Rep]) pass_def (callD_len rfl) ?_
 refine sdl_cons ?_ ?_
 refine sd_var 1 ?_
 exact pv 1 (hv := Or.inl lv_is_false_1)
 exact sdl_nil
 refine ss_cons ?_ ?_
 refine s_ret ?_
 refine sd_isN ?_ ?_ ?_ ?_ ?_
 rfl
 rfl
 exact hu
 refine sd_call ih.i_truth_by hr (by rfl) T.m_truth_by T.f_truth_by.kp T.b_truth_by .nil (fun _ _ => by simp [DD.RepL, DD.Rep]) pass_def (callD_len rfl) ?_
 refine sdl_cons ?_ ?_
 refine sd_var 2 ?_
 exact pv 2 (hv := Or.inl lv_is_false_2)
 refine sdl_cons ?_ ?_
 refine sd_call ih.i_keyed hr (by rfl) T.m_keyed T.f_keyed.kp T.b_keyed .nil (fun _ _ => by simp [DD.RepL, DD.Rep]) pass_def (callD_len rfl) ?_
 refine sdl_cons ?_ ?_
 refine sd_var 2 ?_
 exact pv 2 (hv := Or.inl lv_is_false_2)
 refine sdl_cons ?_ ?_
 refine sd_var 0 ?_
 exact pv 0 (hv := Or.inl lv_is_false_0)
 exact sdl_nil
 exact sdl_nil
 exact sd_bl
 exact ss_nil
theorem sc__law_cell_at : FnScope ["_law_script", "_law_k"] ["_law_script", "_law_k"] (defScope st__law_cell_at) := ⟨rfl, rfl, rfl, by decide +kernel, rfl, by decide +kernel, by decide +kernel⟩
theorem lv__law_cell_at_0 : (defScope st__law_cell_at).names.lookup (Str.ofString "_law_script") = some NameKind.local := by decide +kernel
theorem lv__law_cell_at_1 : (defScope st__law_cell_at).names.lookup (Str.ofString "_law_k") = some NameKind.local := by decide +kernel
theorem ok__law_cell_at {n : Nat} (hw : cls.w = w) (T : Txt K mg ad fd cls) (ih : IH Pr w K mg base ad fd cls FF n) : FnOk Pr w K mg base (CXd Pr w) (2 * (n + 1)) (ad 20) (fd 20) ["_law_script", "_law_k"] (spD K cls 2 (callD tab fns FF (n + 1) 20)) := by
 refine fn_step (m := 2 * n + 1) (body' := c__law_cell_at) T.f__law_cell_at sc__law_cell_at rfl fun cdv A outer s H E hrm => ?_
 have hr := hrm.mono (show 2 * n ≤ 2 * n + 1 by omega)
 have hu := hr.units
 subst hw
 refine ss_cons ?_ ?_
 refine s_if ?_ ?_ ?_
 refine sdt_lt ?_ ?_
 refine sd_var 1 ?_
 exact pv 1 (hv := Or.inl lv__law_cell_at_1)
 refine sd_len ?_ ?_ T.z_len ?_
 rfl
 rfl
 refine sdl_cons ?_ ?_
 refine sd_var 0 ?_
 exact pv 0 (hv := Or.inl lv__law_cell_at_0)
 exact sdl_nil
 refine ss_cons ?_ ?_
 refine s_ret ?_
 refine sd_ix ?_ ?_ ?_ ?_ ?_ ?_
 rfl
 rfl
 exact hu
 refine sd_var 0 ?_
 exact pv 0 (hv := Or.inl lv__law_cell_at_0)
 refine sd_var 1 ?_
 exact pv 1 (hv := Or.inl lv__law_cell_at_1)
 intro _ _; rfl
 exact ss_nil
 exact ss_nil
 refine ss_cons ?_ ?_
 refine s_ret ?_
 exact sd_int
 exact ss_nil
theorem sc__law_draws : FnScope ["_law_cell", "_law_many", "_law_found", "_law_left", "_law_number"] ["_law_cell", "_law_many"] (defScope st__law_draws) := ⟨rfl, rfl, rfl, by decide +kernel, rfl, by decide +kernel, by decide +kernel⟩
theorem lv__law_draws_0 : (defScope st__law_draws).names.lookup (Str.ofString "_law_cell") = some NameKind.local := by decide +kernel
theorem lv__law_draws_1 : (defScope st__law_draws).names.lookup (Str.ofString "_law_many") = some NameKind.local := by decide +kernel
theorem lv__law_draws_2 : (defScope st__law_draws).names.lookup (Str.ofString "_law_found") = some NameKind.local := by decide +kernel
theorem lv__law_draws_3 : (defScope st__law_draws).names.lookup (Str.ofString "_law_left") = some NameKind.local := by decide +kernel
theorem lv__law_draws_4 : (defScope st__law_draws).names.lookup (Str.ofString "_law_number") = some NameKind.local := by decide +kernel
theorem ok__law_draws {n : Nat} (hw : cls.w = w) (T : Txt K mg ad fd cls) (ih : IH Pr w K mg base ad fd cls FF n) : FnOk Pr w K mg base (CXd Pr w) (2 * (n + 1)) (ad 21) (fd 21) ["_law_cell", "_law_many"] (spD K cls 2 (callD tab fns FF (n + 1) 21)) := by
 refine fn_step (m := 2 * n + 1) (body' := c__law_draws) T.f__law_draws sc__law_draws rfl fun cdv A outer s H E hrm => ?_
 have hr := hrm.mono (show 2 * n ≤ 2 * n + 1 by omega)
 have hu := hr.units
 subst hw
 refine ss_cons ?_ ?_
 refine s_set (i := 2) ?_ ?_ ?_ ?_
 exact sc__law_draws.nd
 rfl
 exact Or.inl lv__law_draws_2
 refine sd_lst ?_
 exact sdl_nil
 refine ss_cons ?_ ?_
 refine s_set (i := 3) ?_ ?_ ?_ ?_
 exact sc__law_draws.nd
 rfl
 exact Or.inl lv__law_draws_3
 refine sd_fdiv ?_ ?_
 refine sd_var 0 ?_
 exact pv 0 (hv := Or.inl lv__law_draws_0)
 exact sd_int
 refine ss_cons ?_ ?_
 refine s_if ?_ ?_ ?_
 refine sdt_eq ?_ ?_ ?_ ?_
 rfl
 exact hu
 refine sd_mod ?_ ?_
 refine sd_var 0 ?_
 exact pv 0 (hv := Or.inl lv__law_draws_0)
 exact sd_int
 exact sd_int
 refine ss_cons ?_ ?_
 refine s_while ?_ ?_ ?_
 exact PassesOwn.leaving
 refine PW.pt ?_
 refine sdt_and ?_ ?_
 refine sdt_gt ?_ ?_
 refine sd_var 3 ?_
 exact pv 3 (hv := Or.inl lv__law_draws_3)
 exact sd_int
 refine sdt_and1 ?_
 refine sdt_lt ?_ ?_
 refine sd_len ?_ ?_ T.z_len ?_
 rfl
 rfl
 refine sdl_cons ?_ ?_
 refine sd_var 2 ?_
 exact pv 2 (hv := Or.inl lv__law_draws_2)
 exact sdl_nil
 refine sd_var 1 ?_
 exact pv 1 (hv := Or.inl lv__law_draws_1)
 refine ss_cons ?_ ?_
 refine s_ex ?_
 refine sd_append ?_ ?_ ?_
 rfl
 refine sd_var 2 ?_
 exact pv 2 (hv := Or.inl lv__law_draws_2)
 refine sd_mod ?_ ?_
 refine sd_var 3 ?_
 exact pv 3 (hv := Or.inl lv__law_draws_3)
 refine sd_pow ?_ ?_
 exact sd_int
 exact sd_int
 refine ss_cons ?_ ?_
 refine s_set (i := 3) ?_ ?_ ?_ ?_
 exact sc__law_draws.nd
 rfl
 exact Or.inl lv__law_draws_3
 refine sd_fdiv ?_ ?_
 refine sd_var 3 ?_
 exact pv 3 (hv := Or.inl lv__law_draws_3)
 refine sd_pow ?_ ?_
 exact sd_int
 exact sd_int
 exact ss_nil
 exact ss_nil
 exact ss_nil
 refine ss_cons ?_ ?_
 refine s_set (i := 4) ?_ ?_ ?_ ?_
 exact sc__law_draws.nd
 rfl
 exact Or.inl lv__law_draws_4
 refine sd_mod ?_ ?_
 refine sd_add ?_ ?_
 refine sd_var 0 ?_
 exact pv 0 (hv := Or.inl lv__law_draws_0)
 exact sd_int
 exact sd_int
 refine ss_cons ?_ ?_
 refine s_while ?_ ?_ ?_
 exact PassesOwn.leaving
 refine sdt_lt ?_ ?_
 refine sd_len ?_ ?_ T.z_len ?_
 rfl
 rfl
 refine sdl_cons ?_ ?_
 refine sd_var 2 ?_
 exact pv 2 (hv := Or.inl lv__law_draws_2)
 exact sdl_nil
 refine sd_var 1 ?_
 exact pv 1 (hv := Or.inl lv__law_draws_1)
 refine ss_cons ?_ ?_
 refine s_set (i := 4) ?_ ?_ ?_ ?_
 exact sc__law_draws.nd
 rfl
 exact Or.inl lv__law_draws_4
 refine sd_mod ?_ ?_
 refine sd_mul ?_ ?_ ?_
 rfl
 refine sd_var 4 ?_
 exact pv 4 (hv := Or.inl lv__law_draws_4)
 exact sd_int
 exact sd_int
 refine ss_cons ?_ ?_
 refine s_ex ?_
 refine sd_append ?_ ?_ ?_
 rfl
 refine sd_var 2 ?_
 exact pv 2 (hv := Or.inl lv__law_draws_2)
 refine sd_mod ?_ ?_
 refine sd_mul ?_ ?_ ?_
 rfl
 refine sd_var 4 ?_
 exact pv 4 (hv := Or.inl lv__law_draws_4)
 refine sd_add ?_ ?_
 refine sd_fdiv ?_ ?_
 refine sd_var 4 ?_
 exact pv 4 (hv := Or.inl lv__law_draws_4)
 exact sd_int
 exact sd_int
 exact sd_int
 exact ss_nil
 refine ss_cons ?_ ?_
 refine s_ret ?_
 refine sd_var 2 ?_
 exact pv 2 (hv := Or.inl lv__law_draws_2)
 exact ss_nil
theorem sc__law_taken : FnScope ["_law_xs", "_law_size"] ["_law_xs", "_law_size"] (defScope st__law_taken) := ⟨rfl, rfl, rfl, by decide +kernel, rfl, by decide +kernel, by decide +kernel⟩
theorem lv__law_taken_0 : (defScope st__law_taken).names.lookup (Str.ofString "_law_xs") = some NameKind.local := by decide +kernel
theorem lv__law_taken_1 : (defScope st__law_taken).names.lookup (Str.ofString "_law_size") = some NameKind.local := by decide +kernel
theorem ok__law_taken {n : Nat} (hw : cls.w = w) (T : Txt K mg ad fd cls) (ih : IH Pr w K mg base ad fd cls FF n) : FnOk Pr w K mg base (CXd Pr w) (2 * (n + 1)) (ad 22) (fd 22) ["_law_xs", "_law_size"] (spD K cls 2 (callD tab fns FF (n + 1) 22)) := by
 refine fn_step (m := 2 * n + 1) (body' := c__law_taken) T.f__law_taken sc__law_taken rfl fun cdv A outer s H E hrm => ?_
 have hr := hrm.mono (show 2 * n ≤ 2 * n + 1 by omega)
 have hu := hr.units
 subst hw
 refine ss_cons ?_ ?_
 refine s_if ?_ ?_ ?_
 refine sdt_eq ?_ ?_ ?_ ?_
 rfl
 exact hu
 refine sd_var 0 ?_
 exact pv 0 (hv := Or.inl lv__law_taken_0)
 refine sd_lst ?_
 exact sdl_nil
 refine ss_cons ?_ ?_
 refine s_ret ?_
 exact sd_int
 exact ss_nil
 exact ss_nil
 refine ss_cons ?_ ?_
 refine s_ret ?_
 refine sd_mod ?_ ?_
 refine sd_pop0 ?_ ?_ ?_
 rfl
 refine sd_var 0 ?_
 exact pv 0 (hv := Or.inl lv__law_taken_0)
 exact sd_int
 refine sd_var 1 ?_
 exact pv 1 (hv := Or.inl lv__law_taken_1)
 exact ss_nil
theorem sc__law_spelt : FnScope ["_law_first", "_law_end"] ["_law_first"] (defScope st__law_spelt) := ⟨rfl, rfl, rfl, by decide +kernel, rfl, by decide +kernel, by decide +kernel⟩
theorem lv__law_spelt_0 : (defScope st__law_spelt).names.lookup (Str.ofString "_law_first") = some NameKind.local := by decide +kernel
theorem lv__law_spelt_1 : (defScope st__law_spelt).names.lookup (Str.ofString "_law_end") = some NameKind.cell := by decide +kernel
theorem ok__law_spelt {n : Nat} (hw : cls.w = w) (T : Txt K mg ad fd cls) (ih : IH Pr w K mg base ad fd cls FF n) : FnOk Pr w K mg base (CXd Pr w) (2 * (n + 1)) (ad 23) (fd 23) ["_law_first"] (spD K cls 1 (callD tab fns FF (n + 1) 23)) := by
 refine fn_step (m := 2 * n + 1) (body' := c__law_spelt) T.f__law_spelt sc__law_spelt rfl fun cdv A outer s H E hrm => ?_
 have hr := hrm.mono (show 2 * n ≤ 2 * n + 1 by omega)
 have hu := hr.units
 subst hw
 refine ss_cons ?_ ?_
 refine s_set (i := 1) ?_ ?_ ?_ ?_
 exact sc__law_spelt.nd
 rfl
 refine Or.inr ?_
 exact lv__law_spelt_1
 refine sd_ix ?_ ?_ ?_ ?_ ?_ ?_
 rfl
 rfl
 exact hu
 refine sd_lst ?_
 refine sdl_cons ?_ ?_
 exact sd_str
 refine sdl_cons ?_ ?_
 exact sd_str
 refine sdl_cons ?_ ?_
 exact sd_str
 exact sdl_nil
 refine sd_mod ?_ ?_
 refine sd_var 0 ?_
 exact pv 0 (hv := Or.inl lv__law_spelt_0)
 exact sd_int
 intro _ _; rfl
 refine ss_cons ?_ ?_
 refine s_ret ?_
 refine sd_compG (cl := [(Str.ofString "_law_end", s.heap.objs.size + 1)]) (N := ["_law_letter", "_law_end"]) (nl := 1) (fv := [1]) (tgs := [0]) (one := true) (k := 3) ?_ ?_ ?_ ?_ ?_ ?_ ?_ ?_ ?_ ?_ ?_ ?_ ?_ ?_
 rfl
 rfl
 rfl
 decide
 decide
 rfl
 refine clos_of ?_ ?_
 exact ⟨rfl, trivial⟩
 rfl
 rfl
 refine fv_of ?_
 exact ⟨⟨_, _, rfl, rfl, rfl, by first | exact Or.inl rfl | exact Or.inr rfl, by first | exact Or.inl rfl | exact Or.inr rfl⟩, trivial⟩
 decide
 refine si_str ?_
 exact sd_str
 intro L s0 H0 fp pn
 refine tg_one ?_ ?_ ?_ ?_
 show List.Nodup (["_law_letter", "_law_end"] : List Str); decide
 rfl
 exact Or.inl rfl
 refine Or.inr ?_
 exact rfl
 intro L s0 H0 fp pn
 exact pts_nil
 intro L s0 H0 fp pn
 refine sd_add ?_ ?_
 refine sd_var 0 ?_
 exact pv 0 (hv := by first | exact Or.inl rfl | exact Or.inr (Or.inl rfl) | exact Or.inr (Or.inr rfl))
 refine sd_var 1 ?_
 exact pv 1 (hv := by first | exact Or.inl rfl | exact Or.inr (Or.inl rfl) | exact Or.inr (Or.inr rfl))
 exact ss_nil
theorem sc__law_fraction : FnScope ["_law_xs", "_law_top", "_law_bottom", "_law_by"] ["_law_xs"] (defScope st__law_fraction) := ⟨rfl, rfl, rfl, by decide +kernel, rfl, by decide +kernel, by decide +kernel⟩
theorem lv__law_fraction_0 : (defScope st__law_fraction).names.lookup (Str.ofString "_law_xs") = some NameKind.local := by decide +kernel
theorem lv__law_fraction_1 : (defScope st__law_fraction).names.lookup (Str.ofString "_law_top") = some NameKind.local := by decide +kernel
theorem lv__law_fraction_2 : (defScope st__law_fraction).names.lookup (Str.ofString "_law_bottom") = some NameKind.local := by decide +kernel
theorem lv__law_fraction_3 : (defScope st__law_fraction).names.lookup (Str.ofString "_law_by") = some NameKind.local := by decide +kernel
theorem ok__law_fraction {n : Nat} (hw : cls.w = w) (T : Txt K mg ad fd cls) (ih : IH Pr w K mg base ad fd cls FF n) : FnOk Pr w K mg base (CXd Pr w) (2 * (n + 1)) (ad 25) (fd 25) ["_law_xs"] (spD K cls 1 (callD tab fns FF (n + 1) 25)) := by
 refine fn_step (m := 2 * n + 1) (body' := c__law_fraction) T.f__law_fraction sc__law_fraction rfl fun cdv A outer s H E hrm => ?_
 have hr := hrm.mono (show 2 * n ≤ 2 * n + 1 by omega)
 have hu := hr.units
 subst hw
 refine ss_cons ?_ ?_
 refine s_set (i := 1) ?_ ?_ ?_ ?_
 exact sc__law_fraction.nd
 rfl
 exact Or.inl lv__law_fraction_1
 refine sd_sub ?_ ?_
 refine sd_call ih.i__law_taken hr (by rfl) T.m__law_taken T.f__law_taken.kp T.b__law_taken .nil (fun _ _ => by simp [DD.RepL, DD.Rep]) pass_def (callD_len rfl) ?_
 refine sdl_cons ?_ ?_
 refine sd_var 0 ?_
 exact pv 0 (hv := Or.inl lv__law_fraction_0)
 refine sdl_cons ?_ ?_
 exact sd_int
 exact sdl_nil
 exact sd_int
 refine ss_cons ?_ ?_
 refine s_set (i := 2) ?_ ?_ ?_ ?_
 exact sc__law_fraction.nd
 rfl
 exact Or.inl lv__law_fraction_2
 refine sd_add ?_ ?_
 exact sd_int
 refine sd_call ih.i__law_taken hr (by rfl) T.m__law_taken T.f__law_taken.kp T.b__law_taken .nil (fun _ _ => by simp [DD.RepL, DD.Rep]) pass_def (callD_len rfl) ?_
 refine sdl_cons ?_ ?_
 refine sd_var 0 ?_
 exact pv 0 (hv := Or.inl lv__law_fraction_0)
 refine sdl_cons ?_ ?_
 exact sd_int
 exact sdl_nil
 refine ss_cons ?_ ?_
 refine s_forT (is := [3]) ?_ ?_ ?_ ?_ ?_ ?_
 rfl
 exact PassesOwn.leaving
 rfl
 refine sd_tup ?_
 refine sdl_cons ?_ ?_
 exact sd_int
 refine sdl_cons ?_ ?_
 exact sd_int
 exact sdl_nil
 refine tg_one ?_ ?_ ?_
 exact sc__law_fraction.nd
 rfl
 exact Or.inl lv__law_fraction_3
 refine ss_cons ?_ ?_
 refine s_if ?_ ?_ ?_
 refine PW.pt ?_
 refine sdt_and ?_ ?_
 refine sdt_eq ?_ ?_ ?_ ?_
 rfl
 exact hu
 refine sd_mod ?_ ?_
 refine sd_var 1 ?_
 exact pv 1 (hv := Or.inl lv__law_fraction_1)
 refine sd_var 3 ?_
 exact pv 3 (hv := Or.inl lv__law_fraction_3)
 exact sd_int
 refine sdt_and1 ?_
 refine sdt_eq ?_ ?_ ?_ ?_
 rfl
 exact hu
 refine sd_mod ?_ ?_
 refine sd_var 2 ?_
 exact pv 2 (hv := Or.inl lv__law_fraction_2)
 refine sd_var 3 ?_
 exact pv 3 (hv := Or.inl lv__law_fraction_3)
 exact sd_int
 refine ss_cons ?_ ?_
 refine s_set (i := 1) ?_ ?_ ?_ ?_
 exact sc__law_fraction.nd
 rfl
 exact Or.inl lv__law_fraction_1
 refine sd_fdiv ?_ ?_
 refine sd_var 1 ?_
 exact pv 1 (hv := Or.inl lv__law_fraction_1)
 refine sd_var 3 ?_
 exact pv 3 (hv := Or.inl lv__law_fraction_3)
 refine ss_cons ?_ ?_
 refine s_set (i := 2) ?_ ?_ ?_ ?_
 exact sc__law_fraction.nd
 rfl
 exact Or.inl lv__law_fraction_2
 refine sd_fdiv ?_ ?_
 refine sd_var 2 ?_
 exact pv 2 (hv := Or.inl lv__law_fraction_2)
 refine sd_var 3 ?_
 exact pv 3 (hv := Or.inl lv__law_fraction_3)
 exact ss_nil
 exact ss_nil
 exact ss_nil
 refine ss_cons ?_ ?_
 refine s_ret ?_
 refine sd_tup ?_
 refine sdl_cons ?_ ?_
 refine sd_var 1 ?_
 exact pv 1 (hv := Or.inl lv__law_fraction_1)
 refine sdl_cons ?_ ?_
 refine sd_var 2 ?_
 exact pv 2 (hv := Or.inl lv__law_fraction_2)
 exact sdl_nil
 exact ss_nil
theorem sc__law_thing : FnScope ["_law_xs", "_law_some", "_law_deep", "_law_way"] ["_law_xs", "_law_some", "_law_deep"] (defScope st__law_thing) := ⟨rfl, rfl, rfl, by decide +kernel, rfl, by decide +kernel, by decide +kernel⟩
theorem lv__law_thing_0 : (defScope st__law_thing).names.lookup (Str.ofString "_law_xs") = some NameKind.local := by decide +kernel
theorem lv__law_thing_1 : (defScope st__law_thing).names.lookup (Str.ofString "_law_some") = some NameKind.local := by decide +kernel
theorem lv__law_thing_2 : (defScope st__law_thing).names.lookup (Str.ofString "_law_deep") = some NameKind.local := by decide +kernel
theorem lv__law_thing_3 : (defScope st__law_thing).names.lookup (Str.ofString "_law_way") = some NameKind.local := by decide +kernel
theorem ok__law_thing {n : Nat} (hw : cls.w = w) (T : Txt K mg ad fd cls) (ih : IH Pr w K mg base ad fd cls FF n) : FnOk Pr w K mg base (CXd Pr w) (2 * (n + 1)) (ad 26) (fd 26) ["_law_xs", "_law_some", "_law_deep"] (spD K cls 3 (callD tab fns FF (n + 1) 26)) := by
 refine fn_step (m := 2 * n + 1) (body' := c__law_thing) T.f__law_thing sc__law_thing rfl fun cdv A outer s H E hrm => ?_
 have hr := hrm.mono (show 2 * n ≤ 2 * n + 1 by omega)
 have hu := hr.units
 subst hw
 refine ss_cons ?_ ?_
 refine s_set (i := 3) ?_ ?_ ?_ ?_
 exact sc__law_thing.nd
 rfl
 exact Or.inl lv__law_thing_3
 refine sd_call ih.i__law_taken hr (by rfl) T.m__law_taken T.f__law_taken.kp T.b__law_taken .nil (fun _ _ => by simp [DD.RepL, DD.Rep]) pass_def (callD_len rfl) ?_
 refine sdl_cons ?_ ?_
 refine sd_var 0 ?_
 exact pv 0 (hv := Or.inl lv__law_thing_0)
 refine sdl_cons ?_ ?_
 exact sd_int
 exact sdl_nil
 refine ss_cons ?_ ?_
 refine s_if ?_ ?_ ?_
 refine PW.pt ?_
 refine sdt_and ?_ ?_
 refine sdt_eq ?_ ?_ ?_ ?_
 rfl
 exact hu
 refine sd_var 3 ?_
 exact pv 3 (hv := Or.inl lv__law_thing_3)
 exact sd_int
 refine sdt_and1 ?_
 refine sdt_gt ?_ ?_
 refine sd_var 2 ?_
 exact pv 2 (hv := Or.inl lv__law_thing_2)
 exact sd_int
 refine ss_cons ?_ ?_
 refine s_ret ?_
 refine sd_tup ?_
 refine sdl_cons ?_ ?_
 exact sd_str
 refine sdl_cons ?_ ?_
 refine sd_ix ?_ ?_ ?_ ?_ ?_ ?_
 rfl
 rfl
 exact hu
 refine sd_var 1 ?_
 exact pv 1 (hv := Or.inl lv__law_thing_1)
 exact sd_int
 intro _ _; rfl
 refine sdl_cons ?_ ?_
 refine sd_tup ?_
 refine sdl_cons ?_ ?_
 refine sd_call ih.i__law_thing hr (by rfl) T.m__law_thing T.f__law_thing.kp T.b__law_thing .nil (fun _ _ => by simp [DD.RepL, DD.Rep]) pass_def (callD_len rfl) ?_
 refine sdl_cons ?_ ?_
 refine sd_var 0 ?_
 exact pv 0 (hv := Or.inl lv__law_thing_0)
 refine sdl_cons ?_ ?_
 refine sd_var 1 ?_
 exact pv 1 (hv := Or.inl lv__law_thing_1)
 refine sdl_cons ?_ ?_
 refine sd_sub ?_ ?_
 refine sd_var 2 ?_
 exact pv 2 (hv := Or.inl lv__law_thing_2)
 exact sd_int
 exact sdl_nil
 exact sdl_nil
 exact sdl_nil
 exact ss_nil
 exact ss_nil
 refine ss_cons ?_ ?_
 refine s_ret ?_
 refine sd_tup ?_
 refine sdl_cons ?_ ?_
 exact sd_str
 refine sdl_cons ?_ ?_
 refine sd_ix ?_ ?_ ?_ ?_ ?_ ?_
 rfl
 rfl
 exact hu
 refine sd_var 1 ?_
 exact pv 1 (hv := Or.inl lv__law_thing_1)
 refine sd_add ?_ ?_
 exact sd_int
 refine sd_mod ?_ ?_
 refine sd_var 3 ?_
 exact pv 3 (hv := Or.inl lv__law_thing_3)
 exact sd_int
 intro _ _; rfl
 exact sdl_nil
 exact ss_nil
theorem sc__law_built : FnScope ["_law_xs", "_law_atoms_here", "_law_deep", "_law_way", "_law_parts"] ["_law_xs", "_law_atoms_here", "_law_deep"] (defScope st__law_built) := ⟨rfl, rfl, rfl, by decide +kernel, rfl, by decide +kernel, by decide +kernel⟩
theorem lv__law_built_0 : (defScope st__law_built).names.lookup (Str.ofString "_law_xs") = some NameKind.cell := by decide +kernel
theorem lv__law_built_1 : (defScope st__law_built).names.lookup (Str.ofString "_law_atoms_here") = some NameKind.cell := by decide +kernel
theorem lv__law_built_2 : (defScope st__law_built).names.lookup (Str.ofString "_law_deep") = some NameKind.cell := by decide +kernel
theorem lv__law_built_3 : (defScope st__law_built).names.lookup (Str.ofString "_law_way") = some NameKind.local := by decide +kernel
theorem lv__law_built_4 : (defScope st__law_built).names.lookup (Str.ofString "_law_parts") = some NameKind.local := by decide +kernel
theorem ok__law_built {n : Nat} (hw : cls.w = w) (T : Txt K mg ad fd cls) (ih : IH Pr w K mg base ad fd cls FF n) : FnOk Pr w K mg base (CXd Pr w) (2 * (n + 1)) (ad 30) (fd 30) ["_law_xs", "_law_atoms_here", "_law_deep"] (spD K cls 3 (callD tab fns FF (n + 1) 30)) := by
 refine fn_step (m := 2 * n + 1) (body' := c__law_built) T.f__law_built sc__law_built rfl fun cdv A outer s H E hrm => ?_
 have hr := hrm.mono (show 2 * n ≤ 2 * n + 1 by omega)
 have hu := hr.units
 subst hw
 refine ss_cons ?_ ?_
 refine s_set (i := 3) ?_ ?_ ?_ ?_
 exact sc__law_built.nd
 rfl
 exact Or.inl lv__law_built_3
 refine sd_call ih.i__law_taken hr (by rfl) T.m__law_taken T.f__law_taken.kp T.b__law_taken .nil (fun _ _ => by simp [DD.RepL, DD.Rep]) pass_def (callD_len rfl) ?_
 refine sdl_cons ?_ ?_
 refine sd_var 0 ?_
 exact pv 0 (hv := Or.inr (Or.inl lv__law_built_0))
 refine sdl_cons ?_ ?_
 exact sd_int
 exact sdl_nil
 refine ss_cons ?_ ?_
 refine s_if ?_ ?_ ?_
 refine PW.pt ?_
 refine sdt_or ?_ ?_
 refine sdt_eq ?_ ?_ ?_ ?_
 rfl
 exact hu
 refine sd_var 2 ?_
 exact pv 2 (hv := Or.inr (Or.inl lv__law_built_2))
 exact sd_int
 refine sdt_or1 ?_
 refine sdt_lt ?_ ?_
 refine sd_var 3 ?_
 exact pv 3 (hv := Or.inl lv__law_built_3)
 exact sd_int
 refine ss_cons ?_ ?_
 refine s_ret ?_
 refine sd_ix ?_ ?_ ?_ ?_ ?_ ?_
 rfl
 rfl
 exact hu
 refine sd_var 1 ?_
 exact pv 1 (hv := Or.inr (Or.inl lv__law_built_1))
 refine sd_call ih.i__law_taken hr (by rfl) T.m__law_taken T.f__law_taken.kp T.b__law_taken .nil (fun _ _ => by simp [DD.RepL, DD.Rep]) pass_def (callD_len rfl) ?_
 refine sdl_cons ?_ ?_
 refine sd_var 0 ?_
 exact pv 0 (hv := Or.inr (Or.inl lv__law_built_0))
 refine sdl_cons ?_ ?_
 refine sd_len ?_ ?_ T.z_len ?_
 rfl
 rfl
 refine sdl_cons ?_ ?_
 refine sd_var 1 ?_
 exact pv 1 (hv := Or.inr (Or.inl lv__law_built_1))
 exact sdl_nil
 exact sdl_nil
 intro _ _; rfl
 exact ss_nil
 exact ss_nil
 refine ss_cons ?_ ?_
 refine s_if ?_ ?_ ?_
 refine sdt_eq ?_ ?_ ?_ ?_
 rfl
 exact hu
 refine sd_var 3 ?_
 exact pv 3 (hv := Or.inl lv__law_built_3)
 exact sd_int
 refine ss_cons ?_ ?_
 refine s_ret ?_
 refine sd_tup ?_
 refine sdl_cons ?_ ?_
 exact sd_str
 refine sdl_cons ?_ ?_
 refine sd_call ih.i__law_built hr (by rfl) T.m__law_built T.f__law_built.kp T.b__law_built .nil (fun _ _ => by simp [DD.RepL, DD.Rep]) pass_def (callD_len rfl) ?_
 refine sdl_cons ?_ ?_
 refine sd_var 0 ?_
 exact pv 0 (hv := Or.inr (Or.inl lv__law_built_0))
 refine sdl_cons ?_ ?_
 refine sd_var 1 ?_
 exact pv 1 (hv := Or.inr (Or.inl lv__law_built_1))
 refine sdl_cons ?_ ?_
 refine sd_sub ?_ ?_
 refine sd_var 2 ?_
 exact pv 2 (hv := Or.inr (Or.inl lv__law_built_2))
 exact sd_int
 exact sdl_nil
 exact sdl_nil
 exact ss_nil
 exact ss_nil
 refine ss_cons ?_ ?_
 refine s_setC (i := 4) (hNd := sc__law_built.nd) (hix := by rfl) (hx := lv__law_built_4) (cl := [(Str.ofString "_law_xs", s.heap.objs.size + 1), (Str.ofString "_law_deep", s.heap.objs.size + 3), (Str.ofString "_law_atoms_here", s.heap.objs.size + 2)]) (N := ["_law_k", "_law_xs", "_law_atoms_here", "_law_deep"]) (nl := 1) (fv := [0, 1, 2]) (tgs := [0]) (one := true) (k := 2) ?_ ?_ ?_ ?_ ?_ ?_ ?_ ?_ ?_ ?_ ?_ ?_ ?_ ?_
 rfl
 rfl
 rfl
 decide
 decide
 rfl
 refine clos_of ?_ ?_
 exact ⟨rfl, rfl, rfl, trivial⟩
 rfl
 rfl
 refine fv_of ?_
 exact ⟨⟨_, _, rfl, rfl, rfl, by first | exact Or.inl rfl | exact Or.inr rfl, by first | exact Or.inl rfl | exact Or.inr rfl⟩, ⟨_, _, rfl, rfl, rfl, by first | exact Or.inl rfl | exact Or.inr rfl, by first | exact Or.inl rfl | exact Or.inr rfl⟩, ⟨_, _, rfl, rfl, rfl, by first | exact Or.inl rfl | exact Or.inr rfl, by first | exact Or.inl rfl | exact Or.inr rfl⟩, trivial⟩
 decide
 refine si_rng1 ?_ T.z_range ?_
 rfl
 refine sd_ix ?_ ?_ ?_ ?_ ?_ ?_
 rfl
 rfl
 exact hu
 refine sd_lst ?_
 refine sdl_cons ?_ ?_
 exact sd_int
 refine sdl_cons ?_ ?_
 exact sd_int
 refine sdl_cons ?_ ?_
 exact sd_int
 refine sdl_cons ?_ ?_
 exact sd_int
 refine sdl_cons ?_ ?_
 exact sd_int
 exact sdl_nil
 refine sd_call ih.i__law_taken hr (by rfl) T.m__law_taken T.f__law_taken.kp T.b__law_taken .nil (fun _ _ => by simp [DD.RepL, DD.Rep]) pass_def (callD_len rfl) ?_
 refine sdl_cons ?_ ?_
 refine sd_var 0 ?_
 exact pv 0 (hv := Or.inr (Or.inl lv__law_built_0))
 refine sdl_cons ?_ ?_
 exact sd_int
 exact sdl_nil
 intro _ _; rfl
 intro L s0 H0 fp pn
 refine tg_one ?_ ?_ ?_ ?_
 show List.Nodup (["_law_k", "_law_xs", "_law_atoms_here", "_law_deep"] : List Str); decide
 rfl
 exact Or.inl rfl
 refine Or.inr ?_
 exact rfl
 intro L s0 H0 fp pn
 exact pts_nil
 intro L s0 H0 fp pn
 refine sd_call ih.i__law_built hr (by rfl) T.m__law_built T.f__law_built.kp T.b__law_built .nil (fun _ _ => by simp [DD.RepL, DD.Rep]) passF (callD_len rfl) ?_
 refine sdl_cons ?_ ?_
 refine sd_var 1 ?_
 exact pv 1 (hv := by first | exact Or.inl rfl | exact Or.inr (Or.inl rfl) | exact Or.inr (Or.inr rfl))
 refine sdl_cons ?_ ?_
 refine sd_var 2 ?_
 exact pv 2 (hv := by first | exact Or.inl rfl | exact Or.inr (Or.inl rfl) | exact Or.inr (Or.inr rfl))
 refine sdl_cons ?_ ?_
 refine sd_sub ?_ ?_
 refine sd_var 3 ?_
 exact pv 3 (hv := by first | exact Or.inl rfl | exact Or.inr (Or.inl rfl) | exact Or.inr (Or.inr rfl))
 exact sd_int
 exact sdl_nil
 refine ss_cons ?_ ?_
 refine s_ret ?_
 refine sd_tup ?_
 refine sdl_cons ?_ ?_
 refine sd_ix ?_ ?_ ?_ ?_ ?_ ?_
 rfl
 rfl
 exact hu
 refine sd_lst ?_
 refine sdl_cons ?_ ?_
 exact sd_str
 refine sdl_cons ?_ ?_
 exact sd_str
 exact sdl_nil
 refine sd_mod ?_ ?_
 refine sd_var 3 ?_
 exact pv 3 (hv := Or.inl lv__law_built_3)
 exact sd_int
 intro _ _; rfl
 refine sdl_cons ?_ ?_
 refine sd_tuple ?_ ?_ T.z_tuple ?_
 rfl
 rfl
 refine sdl_cons ?_ ?_
 refine sd_var 4 ?_
 exact pv 4 (hv := Or.inl lv__law_built_4)
 exact sdl_nil
 exact sdl_nil
 exact ss_nil
theorem sc__law_value : FnScope ["_law_statement", "_law_known"] ["_law_statement", "_law_known"] (defScope st__law_value) := ⟨rfl, rfl, rfl, by decide +kernel, rfl, by decide +kernel, by decide +kernel⟩
theorem lv__law_value_0 : (defScope st__law_value).names.lookup (Str.ofString "_law_statement") = some NameKind.local := by decide +kernel
theorem lv__law_value_1 : (defScope st__law_value).names.lookup (Str.ofString "_law_known") = some NameKind.cell := by decide +kernel
theorem ok__law_value {n : Nat} (hw : cls.w = w) (T : Txt K mg ad fd cls) (ih : IH Pr w K mg base ad fd cls FF n) : FnOk Pr w K mg base (CXd Pr w) (2 * (n + 1)) (ad 31) (fd 31) ["_law_statement", "_law_known"] (spD K cls 2 (callD tab fns FF (n + 1) 31)) := by
 refine fn_step (m := 2 * n + 1) (body' := c__law_value) T.f__law_value sc__law_value rfl fun cdv A outer s H E hrm => ?_
 have hr := hrm.mono (show 2 * n ≤ 2 * n + 1 by omega)
 have hu := hr.units
 subst hw
 refine ss_cons ?_ ?_
 refine s_if ?_ ?_ ?_
 refine sdt_eq ?_ ?_ ?_ ?_
 rfl
 exact hu
 refine sd_ix ?_ ?_ ?_ ?_ ?_ ?_
 rfl
 rfl
 exact hu
 refine sd_var 0 ?_
 exact pv 0 (hv := Or.inl lv__law_value_0)
 exact sd_int
 intro _ _; rfl
 exact sd_str
 refine ss_cons ?_ ?_
 refine s_ret ?_
 refine sd_sub ?_ ?_
 exact sd_int
 refine sd_call ih.i__law_value hr (by rfl) T.m__law_value T.f__law_value.kp T.b__law_value .nil (fun _ _ => by simp [DD.RepL, DD.Rep]) pass_def (callD_len rfl) ?_
 refine sdl_cons ?_ ?_
 refine sd_ix ?_ ?_ ?_ ?_ ?_ ?_
 rfl
 rfl
 exact hu
 refine sd_var 0 ?_
 exact pv 0 (hv := Or.inl lv__law_value_0)
 exact sd_int
 intro _ _; rfl
 refine sdl_cons ?_ ?_
 refine sd_var 1 ?_
 exact pv 1 (hv := Or.inr (Or.inl lv__law_value_1))
 exact sdl_nil
 exact ss_nil
 exact ss_nil
 refine ss_cons ?_ ?_
 refine s_if ?_ ?_ ?_
 refine sdt_eq ?_ ?_ ?_ ?_
 rfl
 exact hu
 refine sd_ix ?_ ?_ ?_ ?_ ?_ ?_
 rfl
 rfl
 exact hu
 refine sd_var 0 ?_
 exact pv 0 (hv := Or.inl lv__law_value_0)
 exact sd_int
 intro _ _; rfl
 exact sd_str
 refine ss_cons ?_ ?_
 refine s_ret ?_
 refine sd_minL ?_ ?_ ?_ T.z_min ?_
 rfl
 rfl
 rfl
 refine sdl_cons ?_ ?_
 refine sd_add ?_ ?_
 refine sd_lst ?_
 refine sdl_cons ?_ ?_
 exact sd_int
 exact sdl_nil
 refine sd_compG (cl := [(Str.ofString "_law_known", s.heap.objs.size + 1)]) (N := ["_law_part", "_law_known"]) (nl := 1) (fv := [1]) (tgs := [0]) (one := true) (k := 1) ?_ ?_ ?_ ?_ ?_ ?_ ?_ ?_ ?_ ?_ ?_ ?_ ?_ ?_
 rfl
 rfl
 rfl
 decide
 decide
 rfl
 refine clos_of ?_ ?_
 exact ⟨rfl, trivial⟩
 rfl
 rfl
 refine fv_of ?_
 exact ⟨⟨_, _, rfl, rfl, rfl, by first | exact Or.inl rfl | exact Or.inr rfl, by first | exact Or.inl rfl | exact Or.inr rfl⟩, trivial⟩
 decide
 refine si_tup ?_ ?_
 rfl
 refine sd_ix ?_ ?_ ?_ ?_ ?_ ?_
 rfl
 rfl
 exact hu
 refine sd_var 0 ?_
 exact pv 0 (hv := Or.inl lv__law_value_0)
 exact sd_int
 intro _ _; rfl
 intro L s0 H0 fp pn
 refine tg_one ?_ ?_ ?_ ?_
 show List.Nodup (["_law_part", "_law_known"] : List Str); decide
 rfl
 exact Or.inl rfl
 refine Or.inr ?_
 exact rfl
 intro L s0 H0 fp pn
 exact pts_nil
 intro L s0 H0 fp pn
 refine sd_call ih.i__law_value hr (by rfl) T.m__law_value T.f__law_value.kp T.b__law_value .nil (fun _ _ => by simp [DD.RepL, DD.Rep]) passF (callD_len rfl) ?_
 refine sdl_cons ?_ ?_
 refine sd_var 0 ?_
 exact pv 0 (hv := by first | exact Or.inl rfl | exact Or.inr (Or.inl rfl) | exact Or.inr (Or.inr rfl))
 refine sdl_cons ?_ ?_
 refine sd_var 1 ?_
 exact pv 1 (hv := by first | exact Or.inl rfl | exact Or.inr (Or.inl rfl) | exact Or.inr (Or.inr rfl))
 exact sdl_nil
 exact sdl_nil
 exact ss_nil
 exact ss_nil
 refine ss_cons ?_ ?_
 refine s_if ?_ ?_ ?_
 refine sdt_eq ?_ ?_ ?_ ?_
 rfl
 exact hu
 refine sd_ix ?_ ?_ ?_ ?_ ?_ ?_
 rfl
 rfl
 exact hu
 refine sd_var 0 ?_
 exact pv 0 (hv := Or.inl lv__law_value_0)
 exact sd_int
 intro _ _; rfl
 exact sd_str
 refine ss_cons ?_ ?_
 refine s_ret ?_
 refine sd_maxL ?_ ?_ ?_ T.z_max ?_
 rfl
 rfl
 rfl
 refine sdl_cons ?_ ?_
 refine sd_add ?_ ?_
 refine sd_lst ?_
 refine sdl_cons ?_ ?_
 exact sd_int
 exact sdl_nil
 refine sd_compG (cl := [(Str.ofString "_law_known", s.heap.objs.size + 1)]) (N := ["_law_part", "_law_known"]) (nl := 1) (fv := [1]) (tgs := [0]) (one := true) (k := 1) ?_ ?_ ?_ ?_ ?_ ?_ ?_ ?_ ?_ ?_ ?_ ?_ ?_ ?_
 rfl
 rfl
 rfl
 decide
 decide
 rfl
 refine clos_of ?_ ?_
 exact ⟨rfl, trivial⟩
 rfl
 rfl
 refine fv_of ?_
 exact ⟨⟨_, _, rfl, rfl, rfl, by first | exact Or.inl rfl | exact Or.inr rfl, by first | exact Or.inl rfl | exact Or.inr rfl⟩, trivial⟩
 decide
 refine si_tup ?_ ?_
 rfl
 refine sd_ix ?_ ?_ ?_ ?_ ?_ ?_
 rfl
 rfl
 exact hu
 refine sd_var 0 ?_
 exact pv 0 (hv := Or.inl lv__law_value_0)
 exact sd_int
 intro _ _; rfl
 intro L s0 H0 fp pn
 refine tg_one ?_ ?_ ?_ ?_
 show List.Nodup (["_law_part", "_law_known"] : List Str); decide
 rfl
 exact Or.inl rfl
 refine Or.inr ?_
 exact rfl
 intro L s0 H0 fp pn
 exact pts_nil
 intro L s0 H0 fp pn
 refine sd_call ih.i__law_value hr (by rfl) T.m__law_value T.f__law_value.kp T.b__law_value .nil (fun _ _ => by simp [DD.RepL, DD.Rep]) passF (callD_len rfl) ?_
 refine sdl_cons ?_ ?_
 refine sd_var 0 ?_
 exact pv 0 (hv := by first | exact Or.inl rfl | exact Or.inr (Or.inl rfl) | exact Or.inr (Or.inr rfl))
 refine sdl_cons ?_ ?_
 refine sd_var 1 ?_
 exact pv 1 (hv := by first | exact Or.inl rfl | exact Or.inr (Or.inl rfl) | exact Or.inr (Or.inr rfl))
 exact sdl_nil
 exact sdl_nil
 exact ss_nil
 exact ss_nil
 refine ss_cons ?_ ?_
 refine s_ret ?_
 refine sd_getN2 ?_ ?_ ?_ ?_ ?_ ?_ ?_
 rfl
 rfl
 exact hu
 refine sd_var 1 ?_
 exact pv 1 (hv := Or.inr (Or.inl lv__law_value_1))
 refine sd_var 0 ?_
 exact pv 0 (hv := Or.inl lv__law_value_0)
 exact sd_int
 exact ⟨by rfl, by rfl, by rfl, by rfl⟩
 exact ss_nil
theorem sc__law_atoms : FnScope ["_law_some", "_law_cell", "_law_xs", "_law_found", "_law_k", "_law_word", "_law_one", "_law_other"] ["_law_some", "_law_cell"] (defScope st__law_atoms) := ⟨rfl, rfl, rfl, by decide +kernel, rfl, by decide +kernel, by decide +kernel⟩
theorem lv__law_atoms_0 : (defScope st__law_atoms).names.lookup (Str.ofString "_law_some") = some NameKind.local := by decide +kernel
theorem lv__law_atoms_1 : (defScope st__law_atoms).names.lookup (Str.ofString "_law_cell") = some NameKind.local := by decide +kernel
theorem lv__law_atoms_2 : (defScope st__law_atoms).names.lookup (Str.ofString "_law_xs") = some NameKind.local := by decide +kernel
theorem lv__law_atoms_3 : (defScope st__law_atoms).names.lookup (Str.ofString "_law_found") = some NameKind.local := by decide +kernel
theorem lv__law_atoms_4 : (defScope st__law_atoms).names.lookup (Str.ofString "_law_k") = some NameKind.local := by decide +kernel
theorem lv__law_atoms_5 : (defScope st__law_atoms).names.lookup (Str.ofString "_law_word") = some NameKind.local := by decide +kernel
theorem lv__law_atoms_6 : (defScope st__law_atoms).names.lookup (Str.ofString "_law_one") = some NameKind.local := by decide +kernel
theorem lv__law_atoms_7 : (defScope st__law_atoms).names.lookup (Str.ofString "_law_other") = some NameKind.local := by decide +kernel
theorem ok__law_atoms {n : Nat} (hw : cls.w = w) (T : Txt K mg ad fd cls) (ih : IH Pr w K mg base ad fd cls FF n) : FnOk Pr w K mg base (CXd Pr w) (2 * (n + 1)) (ad 32) (fd 32) ["_law_some", "_law_cell"] (spD K cls 2 (callD tab fns FF (n + 1) 32)) := by
 refine fn_step (m := 2 * n + 1) (body' := c__law_atoms) T.f__law_atoms sc__law_atoms rfl fun cdv A outer s H E hrm => ?_
 have hr := hrm.mono (show 2 * n ≤ 2 * n + 1 by omega)
 have hu := hr.units
 subst hw
 refine ss_cons ?_ ?_
 refine s_set (i := 2) ?_ ?_ ?_ ?_
 exact sc__law_atoms.nd
 rfl
 exact Or.inl lv__law_atoms_2
 refine sd_call ih.i__law_draws hr (by rfl) T.m__law_draws T.f__law_draws.kp T.b__law_draws .nil (fun _ _ => by simp [DD.RepL, DD.Rep]) pass_def (callD_len rfl) ?_
 refine sdl_cons ?_ ?_
 refine sd_var 1 ?_
 exact pv 1 (hv := Or.inl lv__law_atoms_1)
 refine sdl_cons ?_ ?_
 exact sd_int
 exact sdl_nil
 refine ss_cons ?_ ?_
 refine s_set (i := 3) ?_ ?_ ?_ ?_
 exact sc__law_atoms.nd
 rfl
 exact Or.inl lv__law_atoms_3
 refine sd_lst ?_
 exact sdl_nil
 refine ss_cons ?_ ?_
 refine s_forR (is := [4]) ?_ ?_ ?_ T.z_range ?_ ?_ ?_
 exact PassesOwn.leaving
 rfl
 rfl
 refine sd_add ?_ ?_
 exact sd_int
 refine sd_call ih.i__law_taken hr (by rfl) T.m__law_taken T.f__law_taken.kp T.b__law_taken .nil (fun _ _ => by simp [DD.RepL, DD.Rep]) pass_def (callD_len rfl) ?_
 refine sdl_cons ?_ ?_
 refine sd_var 2 ?_
 exact pv 2 (hv := Or.inl lv__law_atoms_2)
 refine sdl_cons ?_ ?_
 exact sd_int
 exact sdl_nil
 refine tg_one ?_ ?_ ?_
 exact sc__law_atoms.nd
 rfl
 exact Or.inl lv__law_atoms_4
 refine ss_cons ?_ ?_
 refine s_if ?_ ?_ ?_
 refine PW.pt ?_
 refine sdt_and ?_ ?_
 refine sdt_ne ?_ ?_ ?_ ?_
 rfl
 exact hu
 refine sd_var 3 ?_
 exact pv 3 (hv := Or.inl lv__law_atoms_3)
 refine sd_lst ?_
 exact sdl_nil
 refine sdt_and1 ?_
 refine sdt_eq ?_ ?_ ?_ ?_
 rfl
 exact hu
 refine sd_call ih.i__law_taken hr (by rfl) T.m__law_taken T.f__law_taken.kp T.b__law_taken .nil (fun _ _ => by simp [DD.RepL, DD.Rep]) pass_def (callD_len rfl) ?_
 refine sdl_cons ?_ ?_
 refine sd_var 2 ?_
 exact pv 2 (hv := Or.inl lv__law_atoms_2)
 refine sdl_cons ?_ ?_
 exact sd_int
 exact sdl_nil
 exact sd_int
 refine ss_cons ?_ ?_
 refine s_unp (is := [5, 6, 7]) ?_ ?_
 refine sd_ix ?_ ?_ ?_ ?_ ?_ ?_
 rfl
 rfl
 exact hu
 refine sd_var 3 ?_
 exact pv 3 (hv := Or.inl lv__law_atoms_3)
 refine sd_call ih.i__law_taken hr (by rfl) T.m__law_taken T.f__law_taken.kp T.b__law_taken .nil (fun _ _ => by simp [DD.RepL, DD.Rep]) pass_def (callD_len rfl) ?_
 refine sdl_cons ?_ ?_
 refine sd_var 2 ?_
 exact pv 2 (hv := Or.inl lv__law_atoms_2)
 refine sdl_cons ?_ ?_
 refine sd_len ?_ ?_ T.z_len ?_
 rfl
 rfl
 refine sdl_cons ?_ ?_
 refine sd_var 3 ?_
 exact pv 3 (hv := Or.inl lv__law_atoms_3)
 exact sdl_nil
 exact sdl_nil
 intro _ _; rfl
 refine pg_tup ?_ ?_
 rfl
 refine pgs_cons ?_ ?_
 refine pg_name (i := 5) ?_ ?_ ?_
 exact sc__law_atoms.nd
 rfl
 exact Or.inl lv__law_atoms_5
 refine pgs_cons ?_ ?_
 refine pg_name (i := 6) ?_ ?_ ?_
 exact sc__law_atoms.nd
 rfl
 exact Or.inl lv__law_atoms_6
 refine pgs_cons ?_ ?_
 refine pg_name (i := 7) ?_ ?_ ?_
 exact sc__law_atoms.nd
 rfl
 exact Or.inl lv__law_atoms_7
 exact pgs_nil
 refine ss_cons ?_ ?_
 refine s_ex ?_
 refine sd_append ?_ ?_ ?_
 rfl
 refine sd_var 3 ?_
 exact pv 3 (hv := Or.inl lv__law_atoms_3)
 refine sd_tup ?_
 refine sdl_cons ?_ ?_
 refine sd_var 5 ?_
 exact pv 5 (hv := Or.inl lv__law_atoms_5)
 refine sdl_cons ?_ ?_
 refine sd_var 7 ?_
 exact pv 7 (hv := Or.inl lv__law_atoms_7)
 refine sdl_cons ?_ ?_
 refine sd_var 6 ?_
 exact pv 6 (hv := Or.inl lv__law_atoms_6)
 exact sdl_nil
 exact ss_nil
 refine ss_cons ?_ ?_
 refine s_if ?_ ?_ ?_
 refine sdt_eq ?_ ?_ ?_ ?_
 rfl
 exact hu
 refine sd_call ih.i__law_taken hr (by rfl) T.m__law_taken T.f__law_taken.kp T.b__law_taken .nil (fun _ _ => by simp [DD.RepL, DD.Rep]) pass_def (callD_len rfl) ?_
 refine sdl_cons ?_ ?_
 refine sd_var 2 ?_
 exact pv 2 (hv := Or.inl lv__law_atoms_2)
 refine sdl_cons ?_ ?_
 exact sd_int
 exact sdl_nil
 exact sd_int
 refine ss_cons ?_ ?_
 refine s_ex ?_
 refine sd_append ?_ ?_ ?_
 rfl
 refine sd_var 3 ?_
 exact pv 3 (hv := Or.inl lv__law_atoms_3)
 refine sd_tup ?_
 refine sdl_cons ?_ ?_
 exact sd_str
 refine sdl_cons ?_ ?_
 refine sd_call ih.i__law_thing hr (by rfl) T.m__law_thing T.f__law_thing.kp T.b__law_thing .nil (fun _ _ => by simp [DD.RepL, DD.Rep]) pass_def (callD_len rfl) ?_
 refine sdl_cons ?_ ?_
 refine sd_var 2 ?_
 exact pv 2 (hv := Or.inl lv__law_atoms_2)
 refine sdl_cons ?_ ?_
 refine sd_var 0 ?_
 exact pv 0 (hv := Or.inl lv__law_atoms_0)
 refine sdl_cons ?_ ?_
 exact sd_int
 exact sdl_nil
 refine sdl_cons ?_ ?_
 refine sd_call ih.i__law_thing hr (by rfl) T.m__law_thing T.f__law_thing.kp T.b__law_thing .nil (fun _ _ => by simp [DD.RepL, DD.Rep]) pass_def (callD_len rfl) ?_
 refine sdl_cons ?_ ?_
 refine sd_var 2 ?_
 exact pv 2 (hv := Or.inl lv__law_atoms_2)
 refine sdl_cons ?_ ?_
 refine sd_var 0 ?_
 exact pv 0 (hv := Or.inl lv__law_atoms_0)
 refine sdl_cons ?_ ?_
 exact sd_int
 exact sdl_nil
 exact sdl_nil
 exact ss_nil
 refine ss_cons ?_ ?_
 refine s_set (i := 5) ?_ ?_ ?_ ?_
 exact sc__law_atoms.nd
 rfl
 exact Or.inl lv__law_atoms_5
 refine sd_ix ?_ ?_ ?_ ?_ ?_ ?_
 rfl
 rfl
 exact hu
 refine sd_lst ?_
 refine sdl_cons ?_ ?_
 exact sd_str
 refine sdl_cons ?_ ?_
 exact sd_str
 refine sdl_cons ?_ ?_
 exact sd_str
 exact sdl_nil
 refine sd_call ih.i__law_taken hr (by rfl) T.m__law_taken T.f__law_taken.kp T.b__law_taken .nil (fun _ _ => by simp [DD.RepL, DD.Rep]) pass_def (callD_len rfl) ?_
 refine sdl_cons ?_ ?_
 refine sd_var 2 ?_
 exact pv 2 (hv := Or.inl lv__law_atoms_2)
 refine sdl_cons ?_ ?_
 exact sd_int
 exact sdl_nil
 intro _ _; rfl
 refine ss_cons ?_ ?_
 refine s_ex ?_
 refine sd_append ?_ ?_ ?_
 rfl
 refine sd_var 3 ?_
 exact pv 3 (hv := Or.inl lv__law_atoms_3)
 refine sd_tup ?_
 refine sdl_cons ?_ ?_
 refine sd_var 5 ?_
 exact pv 5 (hv := Or.inl lv__law_atoms_5)
 refine sdl_cons ?_ ?_
 refine sd_tup ?_
 refine sdl_cons ?_ ?_
 exact sd_str
 refine sdl_cons ?_ ?_
 refine sd_ix ?_ ?_ ?_ ?_ ?_ ?_
 rfl
 rfl
 exact hu
 refine sd_var 0 ?_
 exact pv 0 (hv := Or.inl lv__law_atoms_0)
 refine sd_call ih.i__law_taken hr (by rfl) T.m__law_taken T.f__law_taken.kp T.b__law_taken .nil (fun _ _ => by simp [DD.RepL, DD.Rep]) pass_def (callD_len rfl) ?_
 refine sdl_cons ?_ ?_
 refine sd_var 2 ?_
 exact pv 2 (hv := Or.inl lv__law_atoms_2)
 refine sdl_cons ?_ ?_
 exact sd_int
 exact sdl_nil
 intro _ _; rfl
 exact sdl_nil
 refine sdl_cons ?_ ?_
 refine sd_tup ?_
 refine sdl_cons ?_ ?_
 exact sd_str
 refine sdl_cons ?_ ?_
 refine sd_call ih.i__law_fraction hr (by rfl) T.m__law_fraction T.f__law_fraction.kp T.b__law_fraction .nil (fun _ _ => by simp [DD.RepL, DD.Rep]) pass_def (callD_len rfl) ?_
 refine sdl_cons ?_ ?_
 refine sd_var 2 ?_
 exact pv 2 (hv := Or.inl lv__law_atoms_2)
 exact sdl_nil
 exact sdl_nil
 exact sdl_nil
 exact ss_nil
 exact ss_nil
 exact ss_nil
 refine ss_cons ?_ ?_
 refine s_ret ?_
 refine sd_var 3 ?_
 exact pv 3 (hv := Or.inl lv__law_atoms_3)
 exact ss_nil
theorem sc_law : FnScope ["_law_script", "_law_some", "_law_atoms_here", "_law_xs", "_law_path", "_law_k", "_law_known", "_law_atom_here", "_law_sign", "_law_cell", "_law_statement", "_law_due", "_law_found"] ["_law_script"] (defScope st_law) := ⟨rfl, rfl, rfl, by decide +kernel, rfl, by decide +kernel, by decide +kernel⟩
theorem lv_law_0 : (defScope st_law).names.lookup (Str.ofString "_law_script") = some NameKind.local := by decide +kernel
theorem lv_law_1 : (defScope st_law).names.lookup (Str.ofString "_law_some") = some NameKind.local := by decide +kernel
theorem lv_law_2 : (defScope st_law).names.lookup (Str.ofString "_law_atoms_here") = some NameKind.local := by decide +kernel
theorem lv_law_3 : (defScope st_law).names.lookup (Str.ofString "_law_xs") = some NameKind.local := by decide +kernel
theorem lv_law_4 : (defScope st_law).names.lookup (Str.ofString "_law_path") = some NameKind.local := by decide +kernel
theorem lv_law_5 : (defScope st_law).names.lookup (Str.ofString "_law_k") = some NameKind.local := by decide +kernel
theorem lv_law_6 : (defScope st_law).names.lookup (Str.ofString "_law_known") = some NameKind.local := by decide +kernel
theorem lv_law_7 : (defScope st_law).names.lookup (Str.ofString "_law_atom_here") = some NameKind.local := by decide +kernel
theorem lv_law_8 : (defScope st_law).names.lookup (Str.ofString "_law_sign") = some NameKind.local := by decide +kernel
theorem lv_law_9 : (defScope st_law).names.lookup (Str.ofString "_law_cell") = some NameKind.local := by decide +kernel
theorem lv_law_10 : (defScope st_law).names.lookup (Str.ofString "_law_statement") = some NameKind.local := by decide +kernel
theorem lv_law_11 : (defScope st_law).names.lookup (Str.ofString "_law_due") = some NameKind.local := by decide +kernel
theorem lv_law_12 : (defScope st_law).names.lookup (Str.ofString "_law_found") = some NameKind.local := by decide +kernel
theorem ok_law {n : Nat} (hw : cls.w = w) (T : Txt K mg ad fd cls) (ih : IH Pr w K mg base ad fd cls FF n) : FnOk Pr w K mg base (CXd Pr w) (2 * (n + 1)) (ad 33) (fd 33) ["_law_script"] (spD K cls 1 (callD tab fns FF (n + 1) 33)) := by
 refine fn_step (m := 2 * n + 1) (body' := c_law) T.f_law sc_law rfl fun cdv A outer s H E hrm => ?_
 have hr := hrm.mono (show 2 * n ≤ 2 * n + 1 by omega)
 have hu := hr.units
 subst hw
 refine ss_cons ?_ ?_
 refine s_set (i := 1) ?_ ?_ ?_ ?_
 exact sc_law.nd
 rfl
 exact Or.inl lv_law_1
 refine sd_call ih.i__law_spelt hr (by rfl) T.m__law_spelt T.f__law_spelt.kp T.b__law_spelt .nil (fun _ _ => by simp [DD.RepL, DD.Rep]) pass_def (callD_len rfl) ?_
 refine sdl_cons ?_ ?_
 refine sd_call ih.i__law_cell_at hr (by rfl) T.m__law_cell_at T.f__law_cell_at.kp T.b__law_cell_at .nil (fun _ _ => by simp [DD.RepL, DD.Rep]) pass_def (callD_len rfl) ?_
 refine sdl_cons ?_ ?_
 refine sd_var 0 ?_
 exact pv 0 (hv := Or.inl lv_law_0)
 refine sdl_cons ?_ ?_
 exact sd_int
 exact sdl_nil
 exact sdl_nil
 refine ss_cons ?_ ?_
 refine s_set (i := 2) ?_ ?_ ?_ ?_
 exact sc_law.nd
 rfl
 exact Or.inl lv_law_2
 refine sd_call ih.i__law_atoms hr (by rfl) T.m__law_atoms T.f__law_atoms.kp T.b__law_atoms .nil (fun _ _ => by simp [DD.RepL, DD.Rep]) pass_def (callD_len rfl) ?_
 refine sdl_cons ?_ ?_
 refine sd_var 1 ?_
 exact pv 1 (hv := Or.inl lv_law_1)
 refine sdl_cons ?_ ?_
 refine sd_fdiv ?_ ?_
 refine sd_call ih.i__law_cell_at hr (by rfl) T.m__law_cell_at T.f__law_cell_at.kp T.b__law_cell_at .nil (fun _ _ => by simp [DD.RepL, DD.Rep]) pass_def (callD_len rfl) ?_
 refine sdl_cons ?_ ?_
 refine sd_var 0 ?_
 exact pv 0 (hv := Or.inl lv_law_0)
 refine sdl_cons ?_ ?_
 exact sd_int
 exact sdl_nil
 exact sd_int
 exact sdl_nil
 refine ss_cons ?_ ?_
 refine s_set (i := 3) ?_ ?_ ?_ ?_
 exact sc_law.nd
 rfl
 exact Or.inl lv_law_3
 refine sd_call ih.i__law_draws hr (by rfl) T.m__law_draws T.f__law_draws.kp T.b__law_draws .nil (fun _ _ => by simp [DD.RepL, DD.Rep]) pass_def (callD_len rfl) ?_
 refine sdl_cons ?_ ?_
 refine sd_call ih.i__law_cell_at hr (by rfl) T.m__law_cell_at T.f__law_cell_at.kp T.b__law_cell_at .nil (fun _ _ => by simp [DD.RepL, DD.Rep]) pass_def (callD_len rfl) ?_
 refine sdl_cons ?_ ?_
 refine sd_var 0 ?_
 exact pv 0 (hv := Or.inl lv_law_0)
 refine sdl_cons ?_ ?_
 exact sd_int
 exact sdl_nil
 refine sdl_cons ?_ ?_
 exact sd_int
 exact sdl_nil
 refine ss_cons ?_ ?_
 refine s_set (i := 4) ?_ ?_ ?_ ?_
 exact sc_law.nd
 rfl
 exact Or.inl lv_law_4
 refine sd_lst ?_
 exact sdl_nil
 refine ss_cons ?_ ?_
 refine s_forR (is := [5]) ?_ ?_ ?_ T.z_range ?_ ?_ ?_
 exact PassesOwn.leaving
 rfl
 rfl
 refine sd_call ih.i__law_taken hr (by rfl) T.m__law_taken T.f__law_taken.kp T.b__law_taken .nil (fun _ _ => by simp [DD.RepL, DD.Rep]) pass_def (callD_len rfl) ?_
 refine sdl_cons ?_ ?_
 refine sd_var 3 ?_
 exact pv 3 (hv := Or.inl lv_law_3)
 refine sdl_cons ?_ ?_
 exact sd_int
 exact sdl_nil
 refine tg_one ?_ ?_ ?_
 exact sc_law.nd
 rfl
 exact Or.inl lv_law_5
 refine ss_cons ?_ ?_
 refine s_ex ?_
 refine sd_append ?_ ?_ ?_
 rfl
 refine sd_var 4 ?_
 exact pv 4 (hv := Or.inl lv_law_4)
 refine sd_tup ?_
 refine sdl_cons ?_ ?_
 refine sd_ix ?_ ?_ ?_ ?_ ?_ ?_
 rfl
 rfl
 exact hu
 refine sd_var 2 ?_
 exact pv 2 (hv := Or.inl lv_law_2)
 refine sd_call ih.i__law_taken hr (by rfl) T.m__law_taken T.f__law_taken.kp T.b__law_taken .nil (fun _ _ => by simp [DD.RepL, DD.Rep]) pass_def (callD_len rfl) ?_
 refine sdl_cons ?_ ?_
 refine sd_var 3 ?_
 exact pv 3 (hv := Or.inl lv_law_3)
 refine sdl_cons ?_ ?_
 refine sd_len ?_ ?_ T.z_len ?_
 rfl
 rfl
 refine sdl_cons ?_ ?_
 refine sd_var 2 ?_
 exact pv 2 (hv := Or.inl lv_law_2)
 exact sdl_nil
 exact sdl_nil
 intro _ _; rfl
 refine sdl_cons ?_ ?_
 refine sd_eq ?_ ?_ ?_ ?_
 rfl
 exact hu
 refine sd_call ih.i__law_taken hr (by rfl) T.m__law_taken T.f__law_taken.kp T.b__law_taken .nil (fun _ _ => by simp [DD.RepL, DD.Rep]) pass_def (callD_len rfl) ?_
 refine sdl_cons ?_ ?_
 refine sd_var 3 ?_
 exact pv 3 (hv := Or.inl lv_law_3)
 refine sdl_cons ?_ ?_
 exact sd_int
 exact sdl_nil
 exact sd_int
 exact sdl_nil
 exact ss_nil
 refine ss_cons ?_ ?_
 refine s_set (i := 6) ?_ ?_ ?_ ?_
 exact sc_law.nd
 rfl
 exact Or.inl lv_law_6
 refine sd_dnewN ?_
 rfl
 refine ss_cons ?_ ?_
 refine s_forL (is := [7, 8]) ?_ ?_ ?_ ?_ ?_ ?_
 rfl
 exact PassesOwn.leaving
 rfl
 refine sd_var 4 ?_
 exact pv 4 (hv := Or.inl lv_law_4)
 refine pg_tup ?_ ?_
 rfl
 refine pgs_cons ?_ ?_
 refine pg_name (i := 7) ?_ ?_ ?_
 exact sc_law.nd
 rfl
 exact Or.inl lv_law_7
 refine pgs_cons ?_ ?_
 refine pg_name (i := 8) ?_ ?_ ?_
 exact sc_law.nd
 rfl
 exact Or.inl lv_law_8
 exact pgs_nil
 refine ss_cons ?_ ?_
 refine s_ex ?_
 refine sd_sdefN ?_ ?_ ?_ ?_ ?_ ?_ ?_
 rfl
 rfl
 exact hu
 refine sd_var 6 ?_
 exact pv 6 (hv := Or.inl lv_law_6)
 refine sd_var 7 ?_
 exact pv 7 (hv := Or.inl lv_law_7)
 refine sd_mul ?_ ?_ ?_
 rfl
 exact sd_int
 refine sd_int1 ?_ T.z_int ?_
 rfl
 refine sdl_cons ?_ ?_
 refine sd_var 8 ?_
 exact pv 8 (hv := Or.inl lv_law_8)
 exact sdl_nil
 exact ⟨by rfl, by rfl, by rfl, by rfl⟩
 exact ss_nil
 refine ss_cons ?_ ?_
 refine s_forL (is := [9]) ?_ ?_ ?_ ?_ ?_ ?_
 rfl
 exact PassesOwn.leaving
 rfl
 refine sd_sl3 ?_ ?_ ?_ ?_
 rfl
 refine sd_var 0 ?_
 exact pv 0 (hv := Or.inl lv_law_0)
 exact sd_int
 exact sd_int
 refine tg_one ?_ ?_ ?_
 exact sc_law.nd
 rfl
 exact Or.inl lv_law_9
 refine ss_cons ?_ ?_
 refine s_set (i := 10) ?_ ?_ ?_ ?_
 exact sc_law.nd
 rfl
 exact Or.inl lv_law_10
 refine sd_call ih.i__law_built hr (by rfl) T.m__law_built T.f__law_built.kp T.b__law_built .nil (fun _ _ => by simp [DD.RepL, DD.Rep]) pass_def (callD_len rfl) ?_
 refine sdl_cons ?_ ?_
 refine sd_call ih.i__law_draws hr (by rfl) T.m__law_draws T.f__law_draws.kp T.b__law_draws .nil (fun _ _ => by simp [DD.RepL, DD.Rep]) pass_def (callD_len rfl) ?_
 refine sdl_cons ?_ ?_
 refine sd_var 9 ?_
 exact pv 9 (hv := Or.inl lv_law_9)
 refine sdl_cons ?_ ?_
 exact sd_int
 exact sdl_nil
 refine sdl_cons ?_ ?_
 refine sd_var 2 ?_
 exact pv 2 (hv := Or.inl lv_law_2)
 refine sdl_cons ?_ ?_
 exact sd_int
 exact sdl_nil
 refine ss_cons ?_ ?_
 refine s_set (i := 11) ?_ ?_ ?_ ?_
 exact sc_law.nd
 rfl
 exact Or.inl lv_law_11
 refine sd_eq ?_ ?_ ?_ ?_
 rfl
 exact hu
 refine sd_call ih.i__law_value hr (by rfl) T.m__law_value T.f__law_value.kp T.b__law_value .nil (fun _ _ => by simp [DD.RepL, DD.Rep]) pass_def (callD_len rfl) ?_
 refine sdl_cons ?_ ?_
 refine sd_var 10 ?_
 exact pv 10 (hv := Or.inl lv_law_10)
 refine sdl_cons ?_ ?_
 refine sd_var 6 ?_
 exact pv 6 (hv := Or.inl lv_law_6)
 exact sdl_nil
 exact sd_int
 refine ss_cons ?_ ?_
 refine s_set (i := 12) ?_ ?_ ?_ ?_
 exact sc_law.nd
 rfl
 exact Or.inl lv_law_12
 refine sd_lst ?_
 refine sdl_cons ?_ ?_
 refine sd_call ih.i_is_false hr (by rfl) T.m_is_false T.f_is_false.kp T.b_is_false .nil (fun _ _ => by simp [DD.RepL, DD.Rep]) pass_def (callD_len rfl) ?_
 refine sdl_cons ?_ ?_
 refine sd_var 10 ?_
 exact pv 10 (hv := Or.inl lv_law_10)
 refine sdl_cons ?_ ?_
 refine sd_tuple ?_ ?_ T.z_tuple ?_
 rfl
 rfl
 refine sdl_cons ?_ ?_
 refine sd_var 4 ?_
 exact pv 4 (hv := Or.inl lv_law_4)
 exact sdl_nil
 exact sdl_nil
 refine sdl_cons ?_ ?_
 refine sd_call ih.i_is_false hr (by rfl) T.m_is_false T.f_is_false.kp T.b_is_false .nil (fun _ _ => by simp [DD.RepL, DD.Rep]) pass_def (callD_len rfl) ?_
 refine sdl_cons ?_ ?_
 refine sd_tup ?_
 refine sdl_cons ?_ ?_
 exact sd_str
 refine sdl_cons ?_ ?_
 refine sd_tup ?_
 refine sdl_cons ?_ ?_
 exact sd_str
 refine sdl_cons ?_ ?_
 refine sd_var 10 ?_
 exact pv 10 (hv := Or.inl lv_law_10)
 exact sdl_nil
 exact sdl_nil
 refine sdl_cons ?_ ?_
 refine sd_tuple ?_ ?_ T.z_tuple ?_
 rfl
 rfl
 refine sdl_cons ?_ ?_
 refine sd_var 4 ?_
 exact pv 4 (hv := Or.inl lv_law_4)
 exact sdl_nil
 exact sdl_nil
 exact sdl_nil
 refine ss_cons ?_ ?_
 refine s_ex ?_
 refine sd_append ?_ ?_ ?_
 rfl
 refine sd_var 12 ?_
 exact pv 12 (hv := Or.inl lv_law_12)
 refine sd_call ih.i_is_false hr (by rfl) T.m_is_false T.f_is_false.kp T.b_is_false .nil (fun _ _ => by simp [DD.RepL, DD.Rep]) pass_def (callD_len rfl) ?_
 refine sdl_cons ?_ ?_
 refine sd_var 10 ?_
 exact pv 10 (hv := Or.inl lv_law_10)
 refine sdl_cons ?_ ?_
 refine sd_tup ?_
 exact sdl_nil
 exact sdl_nil
 refine ss_cons ?_ ?_
 refine s_if ?_ ?_ ?_
 refine sdt_not ?_
 refine sdt_val ?_ ?_ ?_ ?_
 rfl
 refine sd_all ?_ ?_ ?_ T.z_all ?_
 rfl
 rfl
 rfl
 refine sdl_cons ?_ ?_
 refine sd_compG (cl := []) (N := ["_law_one"]) (nl := 1) (fv := []) (tgs := [0]) (one := true) (k := 0) ?_ ?_ ?_ ?_ ?_ ?_ ?_ ?_ ?_ ?_ ?_ ?_ ?_ ?_
 rfl
 rfl
 rfl
 decide
 decide
 rfl
 refine clos_of ?_ ?_
 exact trivial
 rfl
 rfl
 refine fv_of ?_
 exact trivial
 decide
 refine si_list ?_ ?_
 rfl
 refine sd_var 12 ?_
 exact pv 12 (hv := Or.inl lv_law_12)
 intro L s0 H0 fp pn
 refine tg_one ?_ ?_ ?_ ?_
 show List.Nodup (["_law_one"] : List Str); decide
 rfl
 exact Or.inl rfl
 refine Or.inr ?_
 exact rfl
 intro L s0 H0 fp pn
 exact pts_nil
 intro L s0 H0 fp pn
 refine sd_isiB ?_ ?_ ?_ ?_ T.z_isinstance ?_ T.z_bool ?_ ?_
 rfl
 decide
 exact fun n => tab_b (n := n) (x := "bool") (by decide)
 rfl
 rfl
 rfl
 refine sd_var 0 ?_
 exact pv 0 (hv := by first | exact Or.inl rfl | exact Or.inr (Or.inl rfl) | exact Or.inr (Or.inr rfl))
 exact sdl_nil
 exact hev_bt
 intro _; rfl
 refine ss_cons ?_ ?_
 refine s_ret ?_
 exact sd_bl
 exact ss_nil
 exact ss_nil
 refine ss_cons ?_ ?_
 refine s_if ?_ ?_ ?_
 refine sdt_ne ?_ ?_ ?_ ?_
 rfl
 exact hu
 refine sd_var 12 ?_
 exact pv 12 (hv := Or.inl lv_law_12)
 refine sd_lst ?_
 refine sdl_cons ?_ ?_
 refine sd_var 11 ?_
 exact pv 11 (hv := Or.inl lv_law_11)
 refine sdl_cons ?_ ?_
 refine sd_var 11 ?_
 exact pv 11 (hv := Or.inl lv_law_11)
 refine sdl_cons ?_ ?_
 refine sd_eq ?_ ?_ ?_ ?_
 rfl
 exact hu
 refine sd_call ih.i__law_value hr (by rfl) T.m__law_value T.f__law_value.kp T.b__law_value .nil (fun _ _ => by simp [DD.RepL, DD.Rep]) pass_def (callD_len rfl) ?_
 refine sdl_cons ?_ ?_
 refine sd_var 10 ?_
 exact pv 10 (hv := Or.inl lv_law_10)
 refine sdl_cons ?_ ?_
 refine sd_dnewN ?_
 rfl
 exact sdl_nil
 exact sd_int
 exact sdl_nil
 refine ss_cons ?_ ?_
 refine s_ret ?_
 exact sd_bl
 exact ss_nil
 exact ss_nil
 exact ss_nil
 refine ss_cons ?_ ?_
 refine s_ret ?_
 exact sd_bl
 exact ss_nil
theorem all_ok (hw : cls.w = w) (T : Txt K mg ad fd cls) : ∀ n, IH Pr w K mg base ad fd cls FF n
 | 0 => ⟨fn_zero, fn_zero, fn_zero, fn_zero, fn_zero, fn_zero, fn_zero, fn_zero, fn_zero, fn_zero, fn_zero, fn_zero, fn_zero, fn_zero, fn_zero, fn_zero, fn_zero, fn_zero, fn_zero, fn_zero, fn_zero, fn_zero, fn_zero⟩
 | n + 1 => by
  have ih := all_ok hw T n
  exact ⟨ok_terms_in hw T ih, ok_label_of hw T ih, ok_Numbering_9__init__ hw T ih, ok_Numbering_9number hw T ih, ok_Tellings_9__init__ hw T ih, ok_Tellings_9key_of hw T ih, ok_Tellings_9number_of hw T ih, ok_Tellings_9tell hw T ih, ok_Tellings_9truth_of hw T ih, ok_tellings_of hw T ih, ok_keyed hw T ih, ok_truth_by hw T ih, ok_is_false hw T ih, ok__law_cell_at hw T ih, ok__law_draws hw T ih, ok__law_taken hw T ih, ok__law_spelt hw T ih, ok__law_fraction hw T ih, ok__law_thing hw T ih, ok__law_built hw T ih, ok__law_value hw T ih, ok__law_atoms hw T ih, ok_law hw T ih⟩
end
abbrev adOf (l : List Addr) : Nat → Addr := fun i => l.getD i 0
instance : Inhabited FuncData := ⟨PySem.W.fnOf "" "" (defArgs (.Pass ⟨0, 0, 0, 0⟩)) (defBody (.Pass ⟨0, 0, 0, 0⟩)) (defScope (.Pass ⟨0, 0, 0, 0⟩)) .none .none .none .none none .none .none⟩
theorem bind_law (kV doc pm : Value) (an : Option Addr) (cdv ct : Value) (us : List Value) (hl : us.length = 1) : bindArgs (PySem.W.fnOf "law" "law" (defArgs st_law) (defBody st_law) (defScope st_law) .none kV doc pm an cdv ct) ⟨us, []⟩ = pure ((["_law_script"] : List Str).zip us) := match us, hl with | [_], _ => rfl
theorem top_mk (w : World) {K : PySem.W.Frag} {mg : Str → Option Value} {h : Heap} (X : K.In h) (G : h.Ns mainGlobals mg)
    {g0 : Addr}
    {g1 : Addr}
    {f1 : Addr} {oc1 kv1 dc1 pm1 cd1 ct1 : Value} {od1 an1 : Option Addr} {sl1 : Array (Option Value)}
    {f2 : Addr} {oc2 kv2 dc2 pm2 cd2 ct2 : Value} {od2 an2 : Option Addr} {sl2 : Array (Option Value)}
    {f3 : Addr} {oc3 kv3 dc3 pm3 cd3 ct3 : Value} {od3 an3 : Option Addr} {sl3 : Array (Option Value)}
    {f4 : Addr} {oc4 kv4 dc4 pm4 cd4 ct4 : Value} {od4 an4 : Option Addr} {sl4 : Array (Option Value)}
    {f5 : Addr} {oc5 kv5 dc5 pm5 cd5 ct5 : Value} {od5 an5 : Option Addr} {sl5 : Array (Option Value)}
    {f6 : Addr} {oc6 kv6 dc6 pm6 cd6 ct6 : Value} {od6 an6 : Option Addr} {sl6 : Array (Option Value)}
    {f7 : Addr} {oc7 kv7 dc7 pm7 cd7 ct7 : Value} {od7 an7 : Option Addr} {sl7 : Array (Option Value)}
    {f8 : Addr} {oc8 kv8 dc8 pm8 cd8 ct8 : Value} {od8 an8 : Option Addr} {sl8 : Array (Option Value)}
    {f12 : Addr} {oc12 kv12 dc12 pm12 cd12 ct12 : Value} {od12 an12 : Option Addr} {sl12 : Array (Option Value)}
    {f16 : Addr} {oc16 kv16 dc16 pm16 cd16 ct16 : Value} {od16 an16 : Option Addr} {sl16 : Array (Option Value)}
    {f17 : Addr} {oc17 kv17 dc17 pm17 cd17 ct17 : Value} {od17 an17 : Option Addr} {sl17 : Array (Option Value)}
    {f18 : Addr} {oc18 kv18 dc18 pm18 cd18 ct18 : Value} {od18 an18 : Option Addr} {sl18 : Array (Option Value)}
    {f19 : Addr} {oc19 kv19 dc19 pm19 cd19 ct19 : Value} {od19 an19 : Option Addr} {sl19 : Array (Option Value)}
    {f20 : Addr} {oc20 kv20 dc20 pm20 cd20 ct20 : Value} {od20 an20 : Option Addr} {sl20 : Array (Option Value)}
    {f21 : Addr} {oc21 kv21 dc21 pm21 cd21 ct21 : Value} {od21 an21 : Option Addr} {sl21 : Array (Option Value)}
    {f22 : Addr} {oc22 kv22 dc22 pm22 cd22 ct22 : Value} {od22 an22 : Option Addr} {sl22 : Array (Option Value)}
    {f23 : Addr} {oc23 kv23 dc23 pm23 cd23 ct23 : Value} {od23 an23 : Option Addr} {sl23 : Array (Option Value)}
    {f25 : Addr} {oc25 kv25 dc25 pm25 cd25 ct25 : Value} {od25 an25 : Option Addr} {sl25 : Array (Option Value)}
    {f26 : Addr} {oc26 kv26 dc26 pm26 cd26 ct26 : Value} {od26 an26 : Option Addr} {sl26 : Array (Option Value)}
    {f30 : Addr} {oc30 kv30 dc30 pm30 cd30 ct30 : Value} {od30 an30 : Option Addr} {sl30 : Array (Option Value)}
    {f31 : Addr} {oc31 kv31 dc31 pm31 cd31 ct31 : Value} {od31 an31 : Option Addr} {sl31 : Array (Option Value)}
    {f32 : Addr} {oc32 kv32 dc32 pm32 cd32 ct32 : Value} {od32 an32 : Option Addr} {sl32 : Array (Option Value)}
    {f33 : Addr} {oc33 kv33 dc33 pm33 cd33 ct33 : Value} {od33 an33 : Option Addr} {sl33 : Array (Option Value)}
    {ga_ATOM_WORDS : Addr} {gd_ATOM_WORDS : Option Addr} {gn_ATOM_WORDS : Nat} {gs_ATOM_WORDS : Array (Option Value)} {gk_ATOM_WORDS_0 : Nat} {gk_ATOM_WORDS_1 : Nat} {gk_ATOM_WORDS_2 : Nat}
    (ac0 : PySem.W.nsIn K mainGlobals "Numbering" = some (some (.ref g0)))
    (ac1 : PySem.W.nsIn K mainGlobals "Tellings" = some (some (.ref g1)))
    (a1 : PySem.W.nsIn K mainGlobals "terms_in" = some (some (.ref f1)))
    (l1 : K.lookup f1 = some ⟨oc1, od1, .func (PySem.W.fnOf "terms_in" "terms_in" (defArgs st_terms_in) (defBody st_terms_in) (defScope st_terms_in) .none kv1 dc1 pm1 an1 cd1 ct1), sl1⟩)
    (c1 : PySem.W.codeIn K cd1 "terms_in" = true)
    (k1 : PySem.W.keepIn K (.ref f1) = true)
    (a2 : PySem.W.nsIn K mainGlobals "label_of" = some (some (.ref f2)))
    (l2 : K.lookup f2 = some ⟨oc2, od2, .func (PySem.W.fnOf "label_of" "label_of" (defArgs st_label_of) (defBody st_label_of) (defScope st_label_of) .none kv2 dc2 pm2 an2 cd2 ct2), sl2⟩)
    (c2 : PySem.W.codeIn K cd2 "label_of" = true)
    (k2 : PySem.W.keepIn K (.ref f2) = true)
    (a3 : PySem.W.findIn K (.ref g0) "__init__" = some (some (.ref f3)))
    (i3 : PySem.W.isFn K (.ref f3) = true)
    (l3 : K.lookup f3 = some ⟨oc3, od3, .func (PySem.W.fnOf "__init__" "Numbering.__init__" (defArgs st_Numbering_9__init__) (defBody st_Numbering_9__init__) (defScope st_Numbering_9__init__) .none kv3 dc3 pm3 an3 cd3 ct3), sl3⟩)
    (c3 : PySem.W.codeIn K cd3 "Numbering.__init__" = true)
    (k3 : PySem.W.keepIn K (.ref f3) = true)
    (a4 : PySem.W.findIn K (.ref g0) "number" = some (some (.ref f4)))
    (i4 : PySem.W.isFn K (.ref f4) = true)
    (l4 : K.lookup f4 = some ⟨oc4, od4, .func (PySem.W.fnOf "number" "Numbering.number" (defArgs st_Numbering_9number) (defBody st_Numbering_9number) (defScope st_Numbering_9number) .none kv4 dc4 pm4 an4 cd4 ct4), sl4⟩)
    (c4 : PySem.W.codeIn K cd4 "Numbering.number" = true)
    (k4 : PySem.W.keepIn K (.ref f4) = true)
    (a5 : PySem.W.findIn K (.ref g1) "__init__" = some (some (.ref f5)))
    (i5 : PySem.W.isFn K (.ref f5) = true)
    (l5 : K.lookup f5 = some ⟨oc5, od5, .func (PySem.W.fnOf "__init__" "Tellings.__init__" (defArgs st_Tellings_9__init__) (defBody st_Tellings_9__init__) (defScope st_Tellings_9__init__) .none kv5 dc5 pm5 an5 cd5 ct5), sl5⟩)
    (c5 : PySem.W.codeIn K cd5 "Tellings.__init__" = true)
    (k5 : PySem.W.keepIn K (.ref f5) = true)
    (a6 : PySem.W.findIn K (.ref g1) "key_of" = some (some (.ref f6)))
    (i6 : PySem.W.isFn K (.ref f6) = true)
    (l6 : K.lookup f6 = some ⟨oc6, od6, .func (PySem.W.fnOf "key_of" "Tellings.key_of" (defArgs st_Tellings_9key_of) (defBody st_Tellings_9key_of) (defScope st_Tellings_9key_of) .none kv6 dc6 pm6 an6 cd6 ct6), sl6⟩)
    (c6 : PySem.W.codeIn K cd6 "Tellings.key_of" = true)
    (k6 : PySem.W.keepIn K (.ref f6) = true)
    (a7 : PySem.W.findIn K (.ref g1) "number_of" = some (some (.ref f7)))
    (i7 : PySem.W.isFn K (.ref f7) = true)
    (l7 : K.lookup f7 = some ⟨oc7, od7, .func (PySem.W.fnOf "number_of" "Tellings.number_of" (defArgs st_Tellings_9number_of) (defBody st_Tellings_9number_of) (defScope st_Tellings_9number_of) .none kv7 dc7 pm7 an7 cd7 ct7), sl7⟩)
    (c7 : PySem.W.codeIn K cd7 "Tellings.number_of" = true)
    (k7 : PySem.W.keepIn K (.ref f7) = true)
    (a8 : PySem.W.findIn K (.ref g1) "tell" = some (some (.ref f8)))
    (i8 : PySem.W.isFn K (.ref f8) = true)
    (l8 : K.lookup f8 = some ⟨oc8, od8, .func (PySem.W.fnOf "tell" "Tellings.tell" (defArgs st_Tellings_9tell) (defBody st_Tellings_9tell) (defScope st_Tellings_9tell) .none kv8 dc8 pm8 an8 cd8 ct8), sl8⟩)
    (c8 : PySem.W.codeIn K cd8 "Tellings.tell" = true)
    (k8 : PySem.W.keepIn K (.ref f8) = true)
    (a12 : PySem.W.findIn K (.ref g1) "truth_of" = some (some (.ref f12)))
    (i12 : PySem.W.isFn K (.ref f12) = true)
    (l12 : K.lookup f12 = some ⟨oc12, od12, .func (PySem.W.fnOf "truth_of" "Tellings.truth_of" (defArgs st_Tellings_9truth_of) (defBody st_Tellings_9truth_of) (defScope st_Tellings_9truth_of) .none kv12 dc12 pm12 an12 cd12 ct12), sl12⟩)
    (c12 : PySem.W.codeIn K cd12 "Tellings.truth_of" = true)
    (k12 : PySem.W.keepIn K (.ref f12) = true)
    (a16 : PySem.W.nsIn K mainGlobals "tellings_of" = some (some (.ref f16)))
    (l16 : K.lookup f16 = some ⟨oc16, od16, .func (PySem.W.fnOf "tellings_of" "tellings_of" (defArgs st_tellings_of) (defBody st_tellings_of) (defScope st_tellings_of) .none kv16 dc16 pm16 an16 cd16 ct16), sl16⟩)
    (c16 : PySem.W.codeIn K cd16 "tellings_of" = true)
    (k16 : PySem.W.keepIn K (.ref f16) = true)
    (a17 : PySem.W.nsIn K mainGlobals "keyed" = some (some (.ref f17)))
    (l17 : K.lookup f17 = some ⟨oc17, od17, .func (PySem.W.fnOf "keyed" "keyed" (defArgs st_keyed) (defBody st_keyed) (defScope st_keyed) .none kv17 dc17 pm17 an17 cd17 ct17), sl17⟩)
    (c17 : PySem.W.codeIn K cd17 "keyed" = true)
    (k17 : PySem.W.keepIn K (.ref f17) = true)
    (a18 : PySem.W.nsIn K mainGlobals "truth_by" = some (some (.ref f18)))
    (l18 : K.lookup f18 = some ⟨oc18, od18, .func (PySem.W.fnOf "truth_by" "truth_by" (defArgs st_truth_by) (defBody st_truth_by) (defScope st_truth_by) .none kv18 dc18 pm18 an18 cd18 ct18), sl18⟩)
    (c18 : PySem.W.codeIn K cd18 "truth_by" = true)
    (k18 : PySem.W.keepIn K (.ref f18) = true)
    (a19 : PySem.W.nsIn K mainGlobals "is_false" = some (some (.ref f19)))
    (l19 : K.lookup f19 = some ⟨oc19, od19, .func (PySem.W.fnOf "is_false" "is_false" (defArgs st_is_false) (defBody st_is_false) (defScope st_is_false) .none kv19 dc19 pm19 an19 cd19 ct19), sl19⟩)
    (c19 : PySem.W.codeIn K cd19 "is_false" = true)
    (k19 : PySem.W.keepIn K (.ref f19) = true)
    (a20 : PySem.W.nsIn K mainGlobals "_law_cell_at" = some (some (.ref f20)))
    (l20 : K.lookup f20 = some ⟨oc20, od20, .func (PySem.W.fnOf "_law_cell_at" "_law_cell_at" (defArgs st__law_cell_at) (defBody st__law_cell_at) (defScope st__law_cell_at) .none kv20 dc20 pm20 an20 cd20 ct20), sl20⟩)
    (c20 : PySem.W.codeIn K cd20 "_law_cell_at" = true)
    (k20 : PySem.W.keepIn K (.ref f20) = true)
    (a21 : PySem.W.nsIn K mainGlobals "_law_draws" = some (some (.ref f21)))
    (l21 : K.lookup f21 = some ⟨oc21, od21, .func (PySem.W.fnOf "_law_draws" "_law_draws" (defArgs st__law_draws) (defBody st__law_draws) (defScope st__law_draws) .none kv21 dc21 pm21 an21 cd21 ct21), sl21⟩)
    (c21 : PySem.W.codeIn K cd21 "_law_draws" = true)
    (k21 : PySem.W.keepIn K (.ref f21) = true)
    (a22 : PySem.W.nsIn K mainGlobals "_law_taken" = some (some (.ref f22)))
    (l22 : K.lookup f22 = some ⟨oc22, od22, .func (PySem.W.fnOf "_law_taken" "_law_taken" (defArgs st__law_taken) (defBody st__law_taken) (defScope st__law_taken) .none kv22 dc22 pm22 an22 cd22 ct22), sl22⟩)
    (c22 : PySem.W.codeIn K cd22 "_law_taken" = true)
    (k22 : PySem.W.keepIn K (.ref f22) = true)
    (a23 : PySem.W.nsIn K mainGlobals "_law_spelt" = some (some (.ref f23)))
    (l23 : K.lookup f23 = some ⟨oc23, od23, .func (PySem.W.fnOf "_law_spelt" "_law_spelt" (defArgs st__law_spelt) (defBody st__law_spelt) (defScope st__law_spelt) .none kv23 dc23 pm23 an23 cd23 ct23), sl23⟩)
    (c23 : PySem.W.codeIn K cd23 "_law_spelt" = true)
    (k23 : PySem.W.keepIn K (.ref f23) = true)
    (a25 : PySem.W.nsIn K mainGlobals "_law_fraction" = some (some (.ref f25)))
    (l25 : K.lookup f25 = some ⟨oc25, od25, .func (PySem.W.fnOf "_law_fraction" "_law_fraction" (defArgs st__law_fraction) (defBody st__law_fraction) (defScope st__law_fraction) .none kv25 dc25 pm25 an25 cd25 ct25), sl25⟩)
    (c25 : PySem.W.codeIn K cd25 "_law_fraction" = true)
    (k25 : PySem.W.keepIn K (.ref f25) = true)
    (a26 : PySem.W.nsIn K mainGlobals "_law_thing" = some (some (.ref f26)))
    (l26 : K.lookup f26 = some ⟨oc26, od26, .func (PySem.W.fnOf "_law_thing" "_law_thing" (defArgs st__law_thing) (defBody st__law_thing) (defScope st__law_thing) .none kv26 dc26 pm26 an26 cd26 ct26), sl26⟩)
    (c26 : PySem.W.codeIn K cd26 "_law_thing" = true)
    (k26 : PySem.W.keepIn K (.ref f26) = true)
    (a30 : PySem.W.nsIn K mainGlobals "_law_built" = some (some (.ref f30)))
    (l30 : K.lookup f30 = some ⟨oc30, od30, .func (PySem.W.fnOf "_law_built" "_law_built" (defArgs st__law_built) (defBody st__law_built) (defScope st__law_built) .none kv30 dc30 pm30 an30 cd30 ct30), sl30⟩)
    (c30 : PySem.W.codeIn K cd30 "_law_built" = true)
    (k30 : PySem.W.keepIn K (.ref f30) = true)
    (a31 : PySem.W.nsIn K mainGlobals "_law_value" = some (some (.ref f31)))
    (l31 : K.lookup f31 = some ⟨oc31, od31, .func (PySem.W.fnOf "_law_value" "_law_value" (defArgs st__law_value) (defBody st__law_value) (defScope st__law_value) .none kv31 dc31 pm31 an31 cd31 ct31), sl31⟩)
    (c31 : PySem.W.codeIn K cd31 "_law_value" = true)
    (k31 : PySem.W.keepIn K (.ref f31) = true)
    (a32 : PySem.W.nsIn K mainGlobals "_law_atoms" = some (some (.ref f32)))
    (l32 : K.lookup f32 = some ⟨oc32, od32, .func (PySem.W.fnOf "_law_atoms" "_law_atoms" (defArgs st__law_atoms) (defBody st__law_atoms) (defScope st__law_atoms) .none kv32 dc32 pm32 an32 cd32 ct32), sl32⟩)
    (c32 : PySem.W.codeIn K cd32 "_law_atoms" = true)
    (k32 : PySem.W.keepIn K (.ref f32) = true)
    (a33 : PySem.W.nsIn K mainGlobals "law" = some (some (.ref f33)))
    (l33 : K.lookup f33 = some ⟨oc33, od33, .func (PySem.W.fnOf "law" "law" (defArgs st_law) (defBody st_law) (defScope st_law) .none kv33 dc33 pm33 an33 cd33 ct33), sl33⟩)
    (c33 : PySem.W.codeIn K cd33 "law" = true)
    (k33 : PySem.W.keepIn K (.ref f33) = true)
    (gg_ATOM_WORDS : PySem.W.nsIn K mainGlobals "ATOM_WORDS" = some (some (.ref ga_ATOM_WORDS)))
    (gl_ATOM_WORDS : K.lookup ga_ATOM_WORDS = some ⟨.type "tuple", gd_ATOM_WORDS, .seq #[.str (Str.ofString "atmost") gk_ATOM_WORDS_0, .str (Str.ofString "below") gk_ATOM_WORDS_1, .str (Str.ofString "same") gk_ATOM_WORDS_2] gn_ATOM_WORDS, gs_ATOM_WORDS⟩)
    (pg0 : PySem.W.plainGet K g0 Str.empty = true)
    (hd0 : PySem.W.hasDictIn K g0 = true)
    (po0 : PySem.W.plainOver K g0 = true)
    (sa0 : PySem.W.findIn K (.ref g0) "__setattr__" = some (some (.builtin "object.__setattr__")))
    (pg1 : PySem.W.plainGet K g1 Str.empty = true)
    (hd1 : PySem.W.hasDictIn K g1 = true)
    (po1 : PySem.W.plainOver K g1 = true)
    (sa1 : PySem.W.findIn K (.ref g1) "__setattr__" = some (some (.builtin "object.__setattr__")))
    (na_Numbering_numbers : PySem.W.findIn K (.ref g0) "numbers" = some none)
    (na_Numbering_terms : PySem.W.findIn K (.ref g0) "terms" = some none)
    (na_Tellings_numbering : PySem.W.findIn K (.ref g1) "numbering" = some none)
    (na_Tellings_signs : PySem.W.findIn K (.ref g1) "signs" = some none)
    (na_Tellings_trail : PySem.W.findIn K (.ref g1) "trail" = some none)
    (mk0 : PySem.W.makesIn K g0 = true)
    (kc0 : PySem.W.keepIn K (.ref g0) = true)
    (mk1 : PySem.W.makesIn K g1 = true)
    (kc1 : PySem.W.keepIn K (.ref g1) = true)
    (z_all : PySem.W.nsIn K mainGlobals "all" = some none)
    (z_bool : PySem.W.nsIn K mainGlobals "bool" = some none)
    (z_int : PySem.W.nsIn K mainGlobals "int" = some none)
    (z_isinstance : PySem.W.nsIn K mainGlobals "isinstance" = some none)
    (z_len : PySem.W.nsIn K mainGlobals "len" = some none)
    (z_max : PySem.W.nsIn K mainGlobals "max" = some none)
    (z_min : PySem.W.nsIn K mainGlobals "min" = some none)
    (z_range : PySem.W.nsIn K mainGlobals "range" = some none)
    (z_tuple : PySem.W.nsIn K mainGlobals "tuple" = some none)
    : ∃ (ad : Nat → Addr) (fd : Nat → FuncData) (cf : Nat → Addr), Txt K mg ad fd ⟨w, cf⟩ ∧ ∀ (s : Shared) (u : Value), BindsTo s (fd 33) ⟨[u], []⟩ [("_law_script", u)] := by
  refine ⟨(adOf [0, f1, f2, f3, f4, f5, f6, f7, f8, 0, 0, 0, f12, 0, 0, 0, f16, f17, f18, f19, f20, f21, f22, f23, 0, f25, f26, 0, 0, 0, f30, f31, f32, f33]), (fun i => ([default, PySem.W.fnOf "terms_in" "terms_in" (defArgs st_terms_in) (defBody st_terms_in) (defScope st_terms_in) .none kv1 dc1 pm1 an1 cd1 ct1, PySem.W.fnOf "label_of" "label_of" (defArgs st_label_of) (defBody st_label_of) (defScope st_label_of) .none kv2 dc2 pm2 an2 cd2 ct2, PySem.W.fnOf "__init__" "Numbering.__init__" (defArgs st_Numbering_9__init__) (defBody st_Numbering_9__init__) (defScope st_Numbering_9__init__) .none kv3 dc3 pm3 an3 cd3 ct3, PySem.W.fnOf "number" "Numbering.number" (defArgs st_Numbering_9number) (defBody st_Numbering_9number) (defScope st_Numbering_9number) .none kv4 dc4 pm4 an4 cd4 ct4, PySem.W.fnOf "__init__" "Tellings.__init__" (defArgs st_Tellings_9__init__) (defBody st_Tellings_9__init__) (defScope st_Tellings_9__init__) .none kv5 dc5 pm5 an5 cd5 ct5, PySem.W.fnOf "key_of" "Tellings.key_of" (defArgs st_Tellings_9key_of) (defBody st_Tellings_9key_of) (defScope st_Tellings_9key_of) .none kv6 dc6 pm6 an6 cd6 ct6, PySem.W.fnOf "number_of" "Tellings.number_of" (defArgs st_Tellings_9number_of) (defBody st_Tellings_9number_of) (defScope st_Tellings_9number_of) .none kv7 dc7 pm7 an7 cd7 ct7, PySem.W.fnOf "tell" "Tellings.tell" (defArgs st_Tellings_9tell) (defBody st_Tellings_9tell) (defScope st_Tellings_9tell) .none kv8 dc8 pm8 an8 cd8 ct8, default, default, default, PySem.W.fnOf "truth_of" "Tellings.truth_of" (defArgs st_Tellings_9truth_of) (defBody st_Tellings_9truth_of) (defScope st_Tellings_9truth_of) .none kv12 dc12 pm12 an12 cd12 ct12, default, default, default, PySem.W.fnOf "tellings_of" "tellings_of" (defArgs st_tellings_of) (defBody st_tellings_of) (defScope st_tellings_of) .none kv16 dc16 pm16 an16 cd16 ct16, PySem.W.fnOf "keyed" "keyed" (defArgs st_keyed) (defBody st_keyed) (defScope st_keyed) .none kv17 dc17 pm17 an17 cd17 ct17, PySem.W.fnOf "truth_by" "truth_by" (defArgs st_truth_by) (defBody st_truth_by) (defScope st_truth_by) .none kv18 dc18 pm18 an18 cd18 ct18, PySem.W.fnOf "is_false" "is_false" (defArgs st_is_false) (defBody st_is_false) (defScope st_is_false) .none kv19 dc19 pm19 an19 cd19 ct19, PySem.W.fnOf "_law_cell_at" "_law_cell_at" (defArgs st__law_cell_at) (defBody st__law_cell_at) (defScope st__law_cell_at) .none kv20 dc20 pm20 an20 cd20 ct20, PySem.W.fnOf "_law_draws" "_law_draws" (defArgs st__law_draws) (defBody st__law_draws) (defScope st__law_draws) .none kv21 dc21 pm21 an21 cd21 ct21, PySem.W.fnOf "_law_taken" "_law_taken" (defArgs st__law_taken) (defBody st__law_taken) (defScope st__law_taken) .none kv22 dc22 pm22 an22 cd22 ct22, PySem.W.fnOf "_law_spelt" "_law_spelt" (defArgs st__law_spelt) (defBody st__law_spelt) (defScope st__law_spelt) .none kv23 dc23 pm23 an23 cd23 ct23, default, PySem.W.fnOf "_law_fraction" "_law_fraction" (defArgs st__law_fraction) (defBody st__law_fraction) (defScope st__law_fraction) .none kv25 dc25 pm25 an25 cd25 ct25, PySem.W.fnOf "_law_thing" "_law_thing" (defArgs st__law_thing) (defBody st__law_thing) (defScope st__law_thing) .none kv26 dc26 pm26 an26 cd26 ct26, default, default, default, PySem.W.fnOf "_law_built" "_law_built" (defArgs st__law_built) (defBody st__law_built) (defScope st__law_built) .none kv30 dc30 pm30 an30 cd30 ct30, PySem.W.fnOf "_law_value" "_law_value" (defArgs st__law_value) (defBody st__law_value) (defScope st__law_value) .none kv31 dc31 pm31 an31 cd31 ct31, PySem.W.fnOf "_law_atoms" "_law_atoms" (defArgs st__law_atoms) (defBody st__law_atoms) (defScope st__law_atoms) .none kv32 dc32 pm32 an32 cd32 ct32, PySem.W.fnOf "law" "law" (defArgs st_law) (defBody st_law) (defScope st_law) .none kv33 dc33 pm33 an33 cd33 ct33] : List FuncData).getD i default), (adOf [g0, g1]), ⟨
    (fund_mk (st := st_terms_in) l1 c1 k1),
    (PySem.W.mg_of X G a1),
    (Binds.all fun us hl => match us, hl with | [_], _ => rfl),
    (fund_mk (st := st_label_of) l2 c2 k2),
    (PySem.W.mg_of X G a2),
    (Binds.all fun us hl => match us, hl with | [_], _ => rfl),
    (fund_mk (st := st_Numbering_9__init__) l3 c3 k3),
    (Binds.all fun us hl => match us, hl with | [_], _ => rfl),
    (fund_mk (st := st_Numbering_9number) l4 c4 k4),
    (Binds.all fun us hl => match us, hl with | [_, _], _ => rfl),
    (fund_mk (st := st_Tellings_9__init__) l5 c5 k5),
    (Binds.all fun us hl => match us, hl with | [_], _ => rfl),
    (fund_mk (st := st_Tellings_9key_of) l6 c6 k6),
    (Binds.all fun us hl => match us, hl with | [_, _], _ => rfl),
    (fund_mk (st := st_Tellings_9number_of) l7 c7 k7),
    (Binds.all fun us hl => match us, hl with | [_, _], _ => rfl),
    (fund_mk (st := st_Tellings_9tell) l8 c8 k8),
    (Binds.all fun us hl => match us, hl with | [_, _, _], _ => rfl),
    (fund_mk (st := st_Tellings_9truth_of) l12 c12 k12),
    (Binds.all fun us hl => match us, hl with | [_, _], _ => rfl),
    (fund_mk (st := st_tellings_of) l16 c16 k16),
    (PySem.W.mg_of X G a16),
    (Binds.all fun us hl => match us, hl with | [_], _ => rfl),
    (fund_mk (st := st_keyed) l17 c17 k17),
    (PySem.W.mg_of X G a17),
    (Binds.all fun us hl => match us, hl with | [_, _], _ => rfl),
    (fund_mk (st := st_truth_by) l18 c18 k18),
    (PySem.W.mg_of X G a18),
    (Binds.all fun us hl => match us, hl with | [_, _], _ => rfl),
    (fund_mk (st := st_is_false) l19 c19 k19),
    (PySem.W.mg_of X G a19),
    (Binds.all fun us hl => match us, hl with | [_, _], _ => rfl),
    (fund_mk (st := st__law_cell_at) l20 c20 k20),
    (PySem.W.mg_of X G a20),
    (Binds.all fun us hl => match us, hl with | [_, _], _ => rfl),
    (fund_mk (st := st__law_draws) l21 c21 k21),
    (PySem.W.mg_of X G a21),
    (Binds.all fun us hl => match us, hl with | [_, _], _ => rfl),
    (fund_mk (st := st__law_taken) l22 c22 k22),
    (PySem.W.mg_of X G a22),
    (Binds.all fun us hl => match us, hl with | [_, _], _ => rfl),
    (fund_mk (st := st__law_spelt) l23 c23 k23),
    (PySem.W.mg_of X G a23),
    (Binds.all fun us hl => match us, hl with | [_], _ => rfl),
    (fund_mk (st := st__law_fraction) l25 c25 k25),
    (PySem.W.mg_of X G a25),
    (Binds.all fun us hl => match us, hl with | [_], _ => rfl),
    (fund_mk (st := st__law_thing) l26 c26 k26),
    (PySem.W.mg_of X G a26),
    (Binds.all fun us hl => match us, hl with | [_, _, _], _ => rfl),
    (fund_mk (st := st__law_built) l30 c30 k30),
    (PySem.W.mg_of X G a30),
    (Binds.all fun us hl => match us, hl with | [_, _, _], _ => rfl),
    (fund_mk (st := st__law_value) l31 c31 k31),
    (PySem.W.mg_of X G a31),
    (Binds.all fun us hl => match us, hl with | [_, _], _ => rfl),
    (fund_mk (st := st__law_atoms) l32 c32 k32),
    (PySem.W.mg_of X G a32),
    (Binds.all fun us hl => match us, hl with | [_, _], _ => rfl),
    (fund_mk (st := st_law) l33 c33 k33),
    (PySem.W.mg_of X G a33),
    (Binds.all fun us hl => match us, hl with | [_], _ => rfl),
    (⟨_, _, _, _, PySem.W.mg_of X G gg_ATOM_WORDS, gl_ATOM_WORDS, rfl, rfl, by simp [sizeLine], .cons ⟨_, rfl⟩ (.cons ⟨_, rfl⟩ (.cons ⟨_, rfl⟩ (.nil)))⟩),
    (⟨pg0, hd0, po0, sa0⟩),
    (⟨pg1, hd1, po1, sa1⟩),
    (na_Numbering_numbers),
    (na_Numbering_terms),
    (na_Tellings_numbering),
    (na_Tellings_signs),
    (na_Tellings_trail),
    (⟨a4, i4, k4⟩),
    (⟨a6, i6, k6⟩),
    (⟨a7, i7, k7⟩),
    (⟨a8, i8, k8⟩),
    (⟨a12, i12, k12⟩),
    (⟨mk0, a3, i3, kc0⟩),
    (⟨mk1, a5, i5, kc1⟩),
    (PySem.W.mg_of X G ac0),
    (PySem.W.mg_of X G ac1),
    (PySem.W.mg_none_of X G z_all),
    (PySem.W.mg_none_of X G z_bool),
    (PySem.W.mg_none_of X G z_int),
    (PySem.W.mg_none_of X G z_isinstance),
    (PySem.W.mg_none_of X G z_len),
    (PySem.W.mg_none_of X G z_max),
    (PySem.W.mg_none_of X G z_min),
    (PySem.W.mg_none_of X G z_range),
    (PySem.W.mg_none_of X G z_tuple)⟩, fun s u => .of_eq (bind_law _ _ _ _ _ _ [u] rfl)⟩
noncomputable def runLaw (FF n : Nat) : List D → Sto → Res D := callD tab fns FF n 33
theorem walk {n : Nat} {l : PySem.W.OpenLaw} {q : Program} {loose : List Str} {XP : (Str → Option Value) → Heap → Prop} {YP : World → Heap → Prop} {d : DefRec} {K : Params → PySem.W.Frag} (hn : l.most = some 63) (hdf : d.params.defaults = []) (hN : d.name = "law") (hr : Room (2 * n) callerA)
    (hY : ∀ (w : World) (h : Heap), YP w h → (K w.params).In h)
    (hT : ∀ (w : World) (mg : Str → Option Value) (h : Heap), (K w.params).In h → h.Ns mainGlobals mg → ∃ (ad : Nat → Addr) (fd : Nat → FuncData) (cf : Nat → Addr), Txt (K w.params) mg ad fd ⟨w, cf⟩ ∧ ∀ (s : Shared) (u : Value), BindsTo s (fd 33) ⟨[u], []⟩ [("_law_script", u)])
    (hm : ∀ ns : List Int, ns.length ≤ 63 → ∃ FF st, runLaw FF n [.loc 0] [.frz (ns.map D.int)] = .ok (.bl true) st) :
    PySem.W.WalkO q loose XP YP l.row.toRowW d [] (fun f vs => PySem.call f vs) := by
  refine L2.walk_of (n := 63) (k := 2 * n) (x := "_law_script") (CX := fun w => CXd l.prog w) (sp := fun w vs H Q E => ∀ cls, ∃ FF, spD (K w.params) cls 1 (runLaw FF n) vs H Q E) hn (by decide) hdf hr hY ?_ ?_ fun w H s e s' z => cx_none H s e s' z
  · intro w mg fa h X G hfa
    obtain ⟨ad, fd, cf, T, hb⟩ := hT w mg h X G
    rw [hN, T.m_law] at hfa
    cases hfa
    refine ⟨fd 33, hb, fun base _ _ => ?_⟩
    have F := fun FF => (all_ok (Pr := l.prog) (w := w) (base := base) (FF := FF) (cls := ⟨w, cf⟩) rfl T n).i_law
    exact ⟨fun vs H Q E h => let ⟨FF, h⟩ := h ⟨w, cf⟩; (F FF).len vs H Q E h, fun A outer s H args us vs Q E h1 h2 h3 h4 h => let ⟨FF, h⟩ := h ⟨w, cf⟩; (F FF).run A outer s H args us vs Q E h1 h2 h3 h4 h⟩
  · exact fun w H a ns hl hO hS cls => let ⟨FF, st, e⟩ := hm ns hl; ⟨FF, sp_start e H a hO hS⟩
end My
namespace My
open PySem L2 DD
local macro_rules | `(tactic| infer_instance) => `(tactic| first
 | with_reducible refine ws_cons ?_ | with_reducible refine ws_nil ?_ | with_reducible refine k_next ?_ | with_reducible refine k_ret ?_ | with_reducible refine kf_next ?_ | with_reducible refine kf_ret ?_
 | with_reducible refine w_var rfl ?_ | with_reducible refine w_cst ?_ | with_reducible refine w_cons ?_ | with_reducible refine w_nil ?_
 | with_reducible refine w_op ?_ | with_reducible refine w_cm ?_ | with_reducible refine w_call ?_ | with_reducible refine w_bt ?_ | with_reducible refine w_ix ?_ | with_reducible refine w_mt ?_
 | with_reducible refine ws_set ?_ | with_reducible refine ws_if ?_ | with_reducible refine ws_ret ?_ | with_reducible refine ws_ex ?_ | with_reducible refine ws_setf ?_ | with_reducible refine ws_for ?_ | with_reducible refine ws_forR ?_ | with_reducible refine ws_unp ?_
 | with_reducible refine wt_and ?_ | with_reducible refine wt_or ?_ | with_reducible refine wt_not ?_ | with_reducible refine wt_cm ?_ | with_reducible refine wt_call ?_ | with_reducible refine wt_bt ?_ | with_reducible refine wt_ix ?_ | with_reducible refine wt_isi ?_
 | with_reducible refine w_and ?_ | with_reducible refine w_or ?_ | with_reducible refine w_not ?_ | with_reducible refine w_ifE ?_ | with_reducible refine w_isi ?_ | with_reducible refine w_tup ?_ | with_reducible refine w_lst ?_ | with_reducible refine w_fld ?_ | with_reducible refine w_meth ?_ | with_reducible refine w_mk ?_ | with_reducible refine w_sl ?_ | with_reducible refine w_icons ?_ | with_reducible refine w_inil ?_ | with_reducible refine w_dnewN ?_
 | with_reducible refine wi_nil ?_ | with_reducible refine wi_cons ?_ | with_reducible refine w_comp ?_
 | with_reducible refine r_add ?_ | with_reducible refine r_sub ?_ | with_reducible refine r_eqi ?_ | with_reducible refine r_nei ?_ | with_reducible refine r_lt ?_ | with_reducible refine r_le ?_ | with_reducible refine r_gt ?_ | with_reducible refine r_isN ?_ | with_reducible refine r_lenT ?_ | with_reducible refine r_intB ?_
 | with_reducible refine r_fdiv (by decide) ?_ | with_reducible refine r_mod (by decide) ?_ | with_reducible refine r_mulR (by decide) ?_ | with_reducible refine r_mulL (by decide) ?_ | with_reducible refine r_pow (by decide) ?_
 | with_reducible refine wp_nt ?_ | with_reducible refine wp_nf ?_ | with_reducible refine wp_t ?_ | with_reducible refine wp_f ?_
 | with_reducible refine ⟨_, rfl, wp_t ?_⟩ | with_reducible refine ⟨_, rfl, wp_f ?_⟩
 | (with_reducible refine And.intro (a := _ < List.length _) (of_decide_eq_true rfl) ?_) | (with_reducible refine And.intro (a := List.length _ ≤ sizeLine) (of_decide_eq_true rfl) ?_))
section
variable {FF n : Nat} {st : Sto}
abbrev C (FF n : Nat) := callD tab fns FF n
theorem call_at {FF n f : Nat} {args : List D} {st : Sto} {fn : Fn} (h : fns[f]? = some fn) (hl : args.length = fn.np) (hn : fn.np ≤ fn.nl) :
    C FF (n + 1) f args st = fin (execSs tab (C FF n) FF fn.body (args.map some ++ List.replicate (fn.nl - fn.np) none) st) := by
  show (match fns[f]? with
      | some fn => if args.length = fn.np ∧ fn.np ≤ fn.nl then fin (execSs tab (callD tab fns FF n) FF fn.body (args.map some ++ List.replicate (fn.nl - fn.np) none) st) else .bad
      | none => .bad) = _
  rw [h]; simp only; rw [if_pos ⟨hl, hn⟩]
abbrev W (x : String) : D := .str (Str.ofString x)
theorem szl (k : Nat) (h : k ≤ 16000000) : k ≤ sizeLine := Nat.le_trans h (by decide)
theorem lay_plus : PyData.canLay0 (.str (Str.ofString "plus")) = true := by decide +kernel
theorem s_plus_call : (Str.ofString "plus" = Str.ofString "call") = False := by simp only [eq_iff_iff, iff_false]; decide +kernel
theorem s_plus_weigh : (Str.ofString "plus" = Str.ofString "weigh") = False := by simp only [eq_iff_iff, iff_false]; decide +kernel
theorem s_plus_read : (Str.ofString "plus" = Str.ofString "read") = False := by simp only [eq_iff_iff, iff_false]; decide +kernel
theorem s_plus_put : (Str.ofString "plus" = Str.ofString "put") = False := by simp only [eq_iff_iff, iff_false]; decide +kernel
theorem s_plus_number : (Str.ofString "plus" = Str.ofString "number") = False := by simp only [eq_iff_iff, iff_false]; decide +kernel
theorem s_plus_unknown : (Str.ofString "plus" = Str.ofString "unknown") = False := by simp only [eq_iff_iff, iff_false]; decide +kernel
theorem lay_call : PyData.canLay0 (.str (Str.ofString "call")) = true := by decide +kernel
theorem s_call_plus : (Str.ofString "call" = Str.ofString "plus") = False := by simp only [eq_iff_iff, iff_false]; decide +kernel
theorem s_call_weigh : (Str.ofString "call" = Str.ofString "weigh") = False := by simp only [eq_iff_iff, iff_false]; decide +kernel
theorem s_call_read : (Str.ofString "call" = Str.ofString "read") = False := by simp only [eq_iff_iff, iff_false]; decide +kernel
theorem s_call_put : (Str.ofString "call" = Str.ofString "put") = False := by simp only [eq_iff_iff, iff_false]; decide +kernel
theorem s_call_number : (Str.ofString "call" = Str.ofString "number") = False := by simp only [eq_iff_iff, iff_false]; decide +kernel
theorem s_call_unknown : (Str.ofString "call" = Str.ofString "unknown") = False := by simp only [eq_iff_iff, iff_false]; decide +kernel
theorem lay_weigh : PyData.canLay0 (.str (Str.ofString "weigh")) = true := by decide +kernel
theorem s_weigh_plus : (Str.ofString "weigh" = Str.ofString "plus") = False := by simp only [eq_iff_iff, iff_false]; decide +kernel
theorem s_weigh_call : (Str.ofString "weigh" = Str.ofString "call") = False := by simp only [eq_iff_iff, iff_false]; decide +kernel
theorem s_weigh_read : (Str.ofString "weigh" = Str.ofString "read") = False := by simp only [eq_iff_iff, iff_false]; decide +kernel
theorem s_weigh_put : (Str.ofString "weigh" = Str.ofString "put") = False := by simp only [eq_iff_iff, iff_false]; decide +kernel
theorem s_weigh_number : (Str.ofString "weigh" = Str.ofString "number") = False := by simp only [eq_iff_iff, iff_false]; decide +kernel
theorem s_weigh_unknown : (Str.ofString "weigh" = Str.ofString "unknown") = False := by simp only [eq_iff_iff, iff_false]; decide +kernel
theorem lay_read : PyData.canLay0 (.str (Str.ofString "read")) = true := by decide +kernel
theorem s_read_plus : (Str.ofString "read" = Str.ofString "plus") = False := by simp only [eq_iff_iff, iff_false]; decide +kernel
theorem s_read_call : (Str.ofString "read" = Str.ofString "call") = False := by simp only [eq_iff_iff, iff_false]; decide +kernel
theorem s_read_weigh : (Str.ofString "read" = Str.ofString "weigh") = False := by simp only [eq_iff_iff, iff_false]; decide +kernel
theorem s_read_put : (Str.ofString "read" = Str.ofString "put") = False := by simp only [eq_iff_iff, iff_false]; decide +kernel
theorem s_read_number : (Str.ofString "read" = Str.ofString "number") = False := by simp only [eq_iff_iff, iff_false]; decide +kernel
theorem s_read_unknown : (Str.ofString "read" = Str.ofString "unknown") = False := by simp only [eq_iff_iff, iff_false]; decide +kernel
theorem lay_put : PyData.canLay0 (.str (Str.ofString "put")) = true := by decide +kernel
theorem s_put_plus : (Str.ofString "put" = Str.ofString "plus") = False := by simp only [eq_iff_iff, iff_false]; decide +kernel
theorem s_put_call : (Str.ofString "put" = Str.ofString "call") = False := by simp only [eq_iff_iff, iff_false]; decide +kernel
theorem s_put_weigh : (Str.ofString "put" = Str.ofString "weigh") = False := by simp only [eq_iff_iff, iff_false]; decide +kernel
theorem s_put_read : (Str.ofString "put" = Str.ofString "read") = False := by simp only [eq_iff_iff, iff_false]; decide +kernel
theorem s_put_number : (Str.ofString "put" = Str.ofString "number") = False := by simp only [eq_iff_iff, iff_false]; decide +kernel
theorem s_put_unknown : (Str.ofString "put" = Str.ofString "unknown") = False := by simp only [eq_iff_iff, iff_false]; decide +kernel
theorem lay_number : PyData.canLay0 (.str (Str.ofString "number")) = true := by decide +kernel
theorem s_number_plus : (Str.ofString "number" = Str.ofString "plus") = False := by simp only [eq_iff_iff, iff_false]; decide +kernel
theorem s_number_call : (Str.ofString "number" = Str.ofString "call") = False := by simp only [eq_iff_iff, iff_false]; decide +kernel
theorem s_number_weigh : (Str.ofString "number" = Str.ofString "weigh") = False := by simp only [eq_iff_iff, iff_false]; decide +kernel
theorem s_number_read : (Str.ofString "number" = Str.ofString "read") = False := by simp only [eq_iff_iff, iff_false]; decide +kernel
theorem s_number_put : (Str.ofString "number" = Str.ofString "put") = False := by simp only [eq_iff_iff, iff_false]; decide +kernel
theorem s_number_unknown : (Str.ofString "number" = Str.ofString "unknown") = False := by simp only [eq_iff_iff, iff_false]; decide +kernel
theorem lay_unknown : PyData.canLay0 (.str (Str.ofString "unknown")) = true := by decide +kernel
theorem s_unknown_plus : (Str.ofString "unknown" = Str.ofString "plus") = False := by simp only [eq_iff_iff, iff_false]; decide +kernel
theorem s_unknown_call : (Str.ofString "unknown" = Str.ofString "call") = False := by simp only [eq_iff_iff, iff_false]; decide +kernel
theorem s_unknown_weigh : (Str.ofString "unknown" = Str.ofString "weigh") = False := by simp only [eq_iff_iff, iff_false]; decide +kernel
theorem s_unknown_read : (Str.ofString "unknown" = Str.ofString "read") = False := by simp only [eq_iff_iff, iff_false]; decide +kernel
theorem s_unknown_put : (Str.ofString "unknown" = Str.ofString "put") = False := by simp only [eq_iff_iff, iff_false]; decide +kernel
theorem s_unknown_number : (Str.ofString "unknown" = Str.ofString "number") = False := by simp only [eq_iff_iff, iff_false]; decide +kernel
theorem okW {n : Nat} {x : Str} (h : PyData.canLay0 (.str x) = true) : okN n (.str x) = true := by cases n <;> simpa [okN] using h
inductive Shape : D → Prop
 | unk (x : Str) (hx : PyData.canLay0 (.str x) = true) : Shape (.tup [W "unknown", .str x])
 | num (i j : Int) : Shape (.tup [W "number", .tup [.int i, .int j]])
 | call (f : Str) (hx : PyData.canLay0 (.str f) = true) (ts : List D) : ts.length ≤ 3 → Shape (.tup [W "call", .str f, .tup ts])
noncomputable def inn : D → List D
 | .tup (.str w :: r) => if w = Str.ofString "plus" then (match r with | [.tup ts] => ts | _ => []) else if w = Str.ofString "call" then (match r with | [_, .tup ts] => ts | _ => [])
  else if w = Str.ofString "weigh" then r.drop 1 else if w = Str.ofString "read" ∨ w = Str.ofString "put" then r else []
 | _ => []
noncomputable def lab : D → D
 | .tup (.str w :: r) => if w = Str.ofString "plus" ∨ w = Str.ofString "read" ∨ w = Str.ofString "put" then .tup [.str w] else .tup (.str w :: r.take 1)
 | _ => .non
theorem terms_in {d : D} (h : Shape d) : C FF (n + 1) 1 [d] st = .ok (.tup (inn d)) st := by
 rw [call_at (fn := ⟨1, 2, c_terms_in⟩) rfl rfl (by decide)]
 have hs2 := szl 2 (by decide)
 have hs0 := szl 0 (by decide)
 cases h <;>
 simp [c_terms_in, x_cons, x_nil, x_set, x_ret, x_if, evalE, evalEs, evalIs, evalT, fin, getV, ix_T, L2.atI, L2.ixN, m_eqN, m_inT, okW, okN, lay_plus, lay_call, lay_weigh, lay_read, lay_put, lay_number, lay_unknown, hs2, hs0, s_plus_call, s_plus_weigh, s_plus_read, s_plus_put, s_plus_number, s_plus_unknown, s_call_plus, s_call_weigh, s_call_read, s_call_put, s_call_number, s_call_unknown, s_weigh_plus, s_weigh_call, s_weigh_read, s_weigh_put, s_weigh_number, s_weigh_unknown, s_read_plus, s_read_call, s_read_weigh, s_read_put, s_read_number, s_read_unknown, s_put_plus, s_put_call, s_put_weigh, s_put_read, s_put_number, s_put_unknown, s_number_plus, s_number_call, s_number_weigh, s_number_read, s_number_put, s_number_unknown, s_unknown_plus, s_unknown_call, s_unknown_weigh, s_unknown_read, s_unknown_put, s_unknown_number, inn, slD, slParts, cutD, HT.sIx]
theorem label_of {d : D} (h : Shape d) : C FF (n + 1) 2 [d] st = .ok (lab d) st := by
 rw [call_at (fn := ⟨1, 1, c_label_of⟩) rfl rfl (by decide)]
 have hs3 := szl 3 (by decide)
 cases h <;>
 simp [c_label_of, x_cons, x_nil, x_set, x_ret, x_if, evalE, evalEs, evalIs, evalT, fin, getV, ix_T, L2.atI, L2.ixN, m_eqN, m_inT, okW, okN, lay_plus, lay_call, lay_weigh, lay_read, lay_put, lay_number, lay_unknown, hs3, s_plus_call, s_plus_weigh, s_plus_read, s_plus_put, s_plus_number, s_plus_unknown, s_call_plus, s_call_weigh, s_call_read, s_call_put, s_call_number, s_call_unknown, s_weigh_plus, s_weigh_call, s_weigh_read, s_weigh_put, s_weigh_number, s_weigh_unknown, s_read_plus, s_read_call, s_read_weigh, s_read_put, s_read_number, s_read_unknown, s_put_plus, s_put_call, s_put_weigh, s_put_read, s_put_number, s_put_unknown, s_number_plus, s_number_call, s_number_weigh, s_number_read, s_number_put, s_number_unknown, s_unknown_plus, s_unknown_call, s_unknown_weigh, s_unknown_read, s_unknown_put, s_unknown_number, lab, slD, slParts, cutD, HT.sIx]
end
def Tm : Nat → D → Prop
 | 0, _ => False
 | n + 1, d => Shape d ∧ ∀ t ∈ inn d, Tm n t
theorem Tm.mono : ∀ {n m : Nat} {d : D}, n ≤ m → Tm n d → Tm m d
 | 0, _, _, _, h => h.elim
 | n + 1, 0, _, hm, _ => by omega
 | n + 1, m + 1, _, hm, h => ⟨h.1, fun t ht => Tm.mono (by omega) (h.2 t ht)⟩
theorem inn_unk {x : Str} : inn (.tup [W "unknown", .str x]) = [] := by simp [inn, s_plus_call, s_plus_weigh, s_plus_read, s_plus_put, s_plus_number, s_plus_unknown, s_call_plus, s_call_weigh, s_call_read, s_call_put, s_call_number, s_call_unknown, s_weigh_plus, s_weigh_call, s_weigh_read, s_weigh_put, s_weigh_number, s_weigh_unknown, s_read_plus, s_read_call, s_read_weigh, s_read_put, s_read_number, s_read_unknown, s_put_plus, s_put_call, s_put_weigh, s_put_read, s_put_number, s_put_unknown, s_number_plus, s_number_call, s_number_weigh, s_number_read, s_number_put, s_number_unknown, s_unknown_plus, s_unknown_call, s_unknown_weigh, s_unknown_read, s_unknown_put, s_unknown_number]
theorem inn_num {i j : Int} : inn (.tup [W "number", .tup [.int i, .int j]]) = [] := by simp [inn, s_plus_call, s_plus_weigh, s_plus_read, s_plus_put, s_plus_number, s_plus_unknown, s_call_plus, s_call_weigh, s_call_read, s_call_put, s_call_number, s_call_unknown, s_weigh_plus, s_weigh_call, s_weigh_read, s_weigh_put, s_weigh_number, s_weigh_unknown, s_read_plus, s_read_call, s_read_weigh, s_read_put, s_read_number, s_read_unknown, s_put_plus, s_put_call, s_put_weigh, s_put_read, s_put_number, s_put_unknown, s_number_plus, s_number_call, s_number_weigh, s_number_read, s_number_put, s_number_unknown, s_unknown_plus, s_unknown_call, s_unknown_weigh, s_unknown_read, s_unknown_put, s_unknown_number]
theorem inn_call {f : Str} {ts : List D} : inn (.tup [W "call", .str f, .tup ts]) = ts := by simp [inn, s_plus_call, s_plus_weigh, s_plus_read, s_plus_put, s_plus_number, s_plus_unknown, s_call_plus, s_call_weigh, s_call_read, s_call_put, s_call_number, s_call_unknown, s_weigh_plus, s_weigh_call, s_weigh_read, s_weigh_put, s_weigh_number, s_weigh_unknown, s_read_plus, s_read_call, s_read_weigh, s_read_put, s_read_number, s_read_unknown, s_put_plus, s_put_call, s_put_weigh, s_put_read, s_put_number, s_put_unknown, s_number_plus, s_number_call, s_number_weigh, s_number_read, s_number_put, s_number_unknown, s_unknown_plus, s_unknown_call, s_unknown_weigh, s_unknown_read, s_unknown_put, s_unknown_number]
theorem Tm.ok : ∀ {n : Nat} {d : D}, Tm n d → okN (2 * n) d = true
 | 0, _, h => h.elim
 | n + 1, d, ⟨h1, h2⟩ => by
  have ih : ∀ t ∈ inn d, okN (2 * n) t = true := fun t ht => Tm.ok (h2 t ht)
  have up : ∀ {t : D}, okN (2 * n) t = true → okN (2 * n + 1) t = true := fun h => okN_mono (by omega) h
  rw [show 2 * (n + 1) = 2 * n + 1 + 1 by omega]
  cases h1 with
  | unk x hx => simp [okN, hx, lay_plus, lay_call, lay_weigh, lay_read, lay_put, lay_number, lay_unknown]
  | num i j => simp [okN, lay_plus, lay_call, lay_weigh, lay_read, lay_put, lay_number, lay_unknown]
  | call f hf ts h => rw [inn_call] at ih; simp only [okN, List.all_cons, lay_plus, lay_call, lay_weigh, lay_read, lay_put, lay_number, lay_unknown, hf, List.all_nil, Bool.and_true, Bool.true_and, List.all_eq_true]; exact ih
theorem inn_le {d : D} (h : Shape d) : (inn d).length ≤ 3 := by
 cases h <;> simp [inn, s_plus_call, s_plus_weigh, s_plus_read, s_plus_put, s_plus_number, s_plus_unknown, s_call_plus, s_call_weigh, s_call_read, s_call_put, s_call_number, s_call_unknown, s_weigh_plus, s_weigh_call, s_weigh_read, s_weigh_put, s_weigh_number, s_weigh_unknown, s_read_plus, s_read_call, s_read_weigh, s_read_put, s_read_number, s_read_unknown, s_put_plus, s_put_call, s_put_weigh, s_put_read, s_put_number, s_put_unknown, s_number_plus, s_number_call, s_number_weigh, s_number_read, s_number_put, s_number_unknown, s_unknown_plus, s_unknown_call, s_unknown_weigh, s_unknown_read, s_unknown_put, s_unknown_number] <;> assumption
theorem shape_inj {d e : D} (hd : Shape d) (he : Shape e) (hl : lab d = lab e) (hi : inn d = inn e) : d = e := by
 cases hd <;> cases he <;> simp [lab, inn, s_plus_call, s_plus_weigh, s_plus_read, s_plus_put, s_plus_number, s_plus_unknown, s_call_plus, s_call_weigh, s_call_read, s_call_put, s_call_number, s_call_unknown, s_weigh_plus, s_weigh_call, s_weigh_read, s_weigh_put, s_weigh_number, s_weigh_unknown, s_read_plus, s_read_call, s_read_weigh, s_read_put, s_read_number, s_read_unknown, s_put_plus, s_put_call, s_put_weigh, s_put_read, s_put_number, s_put_unknown, s_number_plus, s_number_call, s_number_weigh, s_number_read, s_number_put, s_number_unknown, s_unknown_plus, s_unknown_call, s_unknown_weigh, s_unknown_read, s_unknown_put, s_unknown_number] at hl hi ⊢ <;> simp_all
theorem lab_ok {d : D} (h : Shape d) : okN 3 (lab d) = true := by
 cases h <;> simp_all [lab, okN, lay_plus, lay_call, lay_weigh, lay_read, lay_put, lay_number, lay_unknown, s_plus_call, s_plus_weigh, s_plus_read, s_plus_put, s_plus_number, s_plus_unknown, s_call_plus, s_call_weigh, s_call_read, s_call_put, s_call_number, s_call_unknown, s_weigh_plus, s_weigh_call, s_weigh_read, s_weigh_put, s_weigh_number, s_weigh_unknown, s_read_plus, s_read_call, s_read_weigh, s_read_put, s_read_number, s_read_unknown, s_put_plus, s_put_call, s_put_weigh, s_put_read, s_put_number, s_put_unknown, s_number_plus, s_number_call, s_number_weigh, s_number_read, s_number_put, s_number_unknown, s_unknown_plus, s_unknown_call, s_unknown_weigh, s_unknown_read, s_unknown_put, s_unknown_number]
noncomputable def insN (ts : List D) (d : D) : List D := if d ∈ ts then ts else ts ++ [d]
noncomputable def grow : Nat → List D → D → List D
 | 0, ts, _ => ts
 | n + 1, ts, d => insN ((inn d).foldl (grow n) ts) d
noncomputable def keyOf (ts : List D) (t : D) : D := .tup [lab t, .tup ((inn t).map fun x => .int (ts.idxOf x))]
noncomputable def kvs (ts : List D) : List (D × D) := ts.zipIdx.map fun p => (keyOf ts p.1, .int p.2)
structure Good (ts : List D) : Prop where
 nd : ts.Nodup
 sh : ∀ t ∈ ts, Shape t
 cl : ∀ (i : Nat) (t : D), ts[i]? = some t → ∀ x ∈ inn t, x ∈ ts.take i
theorem Good.sub {ts : List D} (h : Good ts) : ∀ t ∈ ts, ∀ x ∈ inn t, x ∈ ts := fun t ht x hx => by
 obtain ⟨i, hi⟩ := List.getElem?_of_mem ht
 exact List.mem_of_mem_take (h.cl i t hi x hx)
theorem Good.nil : Good [] := ⟨by simp, by simp, by simp⟩
theorem Good.ins {ts : List D} {d : D} (h : Good ts) (hd : Shape d) (hi : ∀ x ∈ inn d, x ∈ ts) : Good (insN ts d) := by
 unfold insN
 split
 · exact h
 · rename_i hn
   refine ⟨?_, ?_, ?_⟩
   · rw [List.nodup_append]
     refine ⟨h.nd, by simp, fun a ha b hb e => ?_⟩
     simp only [List.mem_singleton] at hb
     exact hn (hb ▸ e ▸ ha)
   · intro t ht
     rcases List.mem_append.mp ht with z | z
     · exact h.sh t z
     · simp only [List.mem_singleton] at z; exact z ▸ hd
   · intro i t ht x hx
     by_cases hlt : i < ts.length
     · rw [List.getElem?_append_left hlt] at ht
       rw [List.take_append_of_le_length (Nat.le_of_lt hlt)]
       exact h.cl i t ht x hx
     · rw [List.getElem?_append_right (by omega)] at ht
       have : i = ts.length := by
        rw [List.getElem?_singleton] at ht
        split at ht
        · omega
        · cases ht
       subst this
       simp only [Nat.sub_self, List.getElem?_cons_zero, Option.some.injEq] at ht
       subst ht
       rw [List.take_append_of_le_length (Nat.le_refl _), List.take_length]
       exact hi x hx
theorem insN_mem {ts : List D} {d x : D} : x ∈ insN ts d ↔ x ∈ ts ∨ x = d := by
 unfold insN
 split
 · constructor
   · exact Or.inl
   · rintro (h | rfl)
     · exact h
     · assumption
 · simp
theorem insN_pre (ts : List D) (d : D) : ts <+: insN ts d := by
 unfold insN
 split
 · exact List.prefix_refl _
 · exact List.prefix_append _ _
theorem fold_pre {f : List D → D → List D} (hf : ∀ ts d, ts <+: f ts d) : ∀ (l ts : List D), ts <+: l.foldl f ts
 | [], ts => List.prefix_refl _
 | d :: r, ts => List.IsPrefix.trans (hf ts d) (fold_pre hf r (f ts d))
theorem grow_pre : ∀ (n : Nat) (ts : List D) (d : D), ts <+: grow n ts d
 | 0, ts, d => List.prefix_refl _
 | n + 1, ts, d => List.IsPrefix.trans (fold_pre (grow_pre n) _ _) (insN_pre _ _)
theorem grow_self {n : Nat} {ts : List D} {d : D} : d ∈ grow (n + 1) ts d := by
 simp only [grow]; exact insN_mem.mpr (.inr rfl)
theorem fold_has {n : Nat} : ∀ (l ts : List D), (∀ x ∈ l, Tm n x) → ∀ x ∈ l, x ∈ l.foldl (grow n) ts
 | d :: r, ts, h, x, hx => by
  rcases List.mem_cons.mp hx with rfl | z
  · have hd : x ∈ grow n ts x := by
     cases n with
     | zero => exact (h x (by simp)).elim
     | succ n => exact grow_self
    exact (fold_pre (grow_pre n) r (grow n ts x)).subset hd
  · exact fold_has r _ (fun y hy => h y (List.mem_cons_of_mem _ hy)) x z
theorem fold_good {n : Nat} (hg : ∀ ts d, Good ts → Tm n d → Good (grow n ts d)) : ∀ (l ts : List D), Good ts → (∀ x ∈ l, Tm n x) → Good (l.foldl (grow n) ts)
 | [], ts, h, _ => h
 | d :: r, ts, h, hx => fold_good hg r _ (hg ts d h (hx d (by simp))) fun y hy => hx y (List.mem_cons_of_mem _ hy)
theorem grow_good : ∀ (n : Nat) (ts : List D) (d : D), Good ts → Tm n d → Good (grow n ts d)
 | 0, ts, d, h, ht => ht.elim
 | n + 1, ts, d, h, ht => by
  simp only [grow]
  exact Good.ins (fold_good (grow_good n) _ _ h ht.2) ht.1 (fold_has _ _ ht.2)
noncomputable def B : Nat → Nat
 | 0 => 0
 | n + 1 => 1 + 3 * B n
theorem fold_len {n : Nat} (hg : ∀ ts d, Tm n d → (grow n ts d).length ≤ ts.length + B n) : ∀ (l ts : List D), (∀ x ∈ l, Tm n x) → (l.foldl (grow n) ts).length ≤ ts.length + l.length * B n
 | [], ts, _ => by simp
 | d :: r, ts, h => by
  have h1 := hg ts d (h d (by simp))
  have h2 := fold_len hg r (grow n ts d) fun y hy => h y (List.mem_cons_of_mem _ hy)
  simp only [List.foldl_cons, List.length_cons, Nat.add_mul, Nat.one_mul]
  omega
theorem insN_len (ts : List D) (d : D) : (insN ts d).length ≤ ts.length + 1 := by
 unfold insN; split <;> simp
theorem grow_len : ∀ (n : Nat) (ts : List D) (d : D), Tm n d → (grow n ts d).length ≤ ts.length + B n
 | 0, ts, d, h => h.elim
 | n + 1, ts, d, h => by
  have h1 := fold_len (grow_len n) (inn d) ts h.2
  have h2 := insN_len ((inn d).foldl (grow n) ts) d
  have h3 := inn_le h.1
  have h4 : (inn d).length * B n ≤ 3 * B n := Nat.mul_le_mul_right _ h3
  simp only [grow, B]
  omega
theorem idx_pre {ts us : List D} (h : ts <+: us) {x : D} (hx : x ∈ ts) : us.idxOf x = ts.idxOf x := by
 obtain ⟨m, rfl⟩ := h
 rw [List.idxOf_append, if_pos hx]
theorem key_pre {ts us : List D} (h : ts <+: us) {t : D} (hi : ∀ x ∈ inn t, x ∈ ts) : keyOf us t = keyOf ts t := by
 unfold keyOf
 congr 3
 congr 1
 exact List.map_congr_left fun x hx => by rw [idx_pre h (hi x hx)]
theorem kvs_app {ts : List D} {d : D} (h : Good ts) (hi : ∀ x ∈ inn d, x ∈ ts) : kvs (ts ++ [d]) = kvs ts ++ [(keyOf ts d, .int ts.length)] := by
 have hp : ts <+: ts ++ [d] := List.prefix_append _ _
 unfold kvs
 rw [List.zipIdx_append, List.map_append]
 congr 1
 · refine List.map_congr_left fun p hp2 => ?_
   have : p.1 ∈ ts := by
    obtain ⟨a, b⟩ := p
    have := List.mem_zipIdx hp2
    have h3 := this.2.2
    simp only [Nat.sub_zero] at h3
    rw [h3]; exact List.getElem_mem _
   rw [key_pre hp (h.sub _ this)]
 · simp [key_pre hp hi]
theorem find_zip (f : D → D) (d : D) : ∀ (l : List D) (k : Nat), (∀ t ∈ l, f t = f d ↔ t = d) → dLook ((l.zipIdx k).map fun p => (f p.1, D.int p.2)) (f d) = if d ∈ l then some (.int ((k + l.idxOf d : Nat) : Int)) else none
 | [], k, _ => by simp [dLook]
 | t :: r, k, h => by
  have ih := find_zip f d r (k + 1) fun x hx => h x (List.mem_cons_of_mem _ hx)
  have h1 := h t (by simp)
  by_cases e : t = d
  · subst e
    simp [dLook, List.zipIdx_cons]
  · have e2 : ¬ f t = f d := fun z => e (h1.mp z)
    have e3 : ¬ d = t := fun z => e z.symm
    have ib : ((t == d) = false) := by simpa using e
    unfold dLook at ih ⊢
    simp only [List.zipIdx_cons, List.map_cons]
    rw [List.find?_cons_of_neg (by simpa using e2)]
    rw [ih]
    simp only [List.mem_cons, e3, false_or, List.idxOf_cons, ib, cond_false]
    split
    · rw [show k + 1 + r.idxOf d = k + (r.idxOf d + 1) by omega]
    · rfl
theorem idx_inj {ts : List D} {x y : D} (hx : x ∈ ts) (h : ts.idxOf x = ts.idxOf y) : x = y := by
 have h1 := List.idxOf_lt_length_of_mem hx
 have e1 : ts[ts.idxOf x] = x := List.getElem_idxOf h1
 have h2 : ts.idxOf y < ts.length := h ▸ h1
 have e2 : ts[ts.idxOf y] = y := List.getElem_idxOf h2
 rw [← e1, ← e2]
 congr 1
theorem maps_inj {ts : List D} : ∀ {a b : List D}, (∀ x ∈ a, x ∈ ts) → (a.map fun x => D.int ((ts.idxOf x : Nat) : Int)) = b.map (fun x => D.int ((ts.idxOf x : Nat) : Int)) → a = b
 | [], [], _, _ => rfl
 | [], _ :: _, _, h => by simp at h
 | _ :: _, [], _, h => by simp at h
 | x :: r, y :: t, ha, h => by
  simp only [List.map_cons, List.cons.injEq, D.int.injEq, Int.natCast_inj] at h
  rw [idx_inj (ha x (by simp)) h.1, maps_inj (fun z hz => ha z (List.mem_cons_of_mem _ hz)) h.2]
theorem look_key {ts : List D} {d : D} (h : Good ts) (hd : Shape d) : dLook (kvs ts) (keyOf ts d) = if d ∈ ts then some (.int (ts.idxOf d : Nat)) else none := by
 have := find_zip (keyOf ts) d ts 0 fun t ht => by
  constructor
  · intro e
    unfold keyOf at e
    simp only [D.tup.injEq, List.cons.injEq, and_true] at e
    exact shape_inj (h.sh t ht) hd e.1 (maps_inj (h.sub t ht) e.2)
  · intro e; rw [e]
 rw [Nat.zero_add] at this
 exact this
theorem put_new {l : List (D × D)} {k v : D} (h : dLook l k = none) : dPut l k v = l ++ [(k, v)] := by
 unfold dPut
 rw [if_neg]
 intro z
 rw [List.any_eq_true] at z
 obtain ⟨p, hp, e⟩ := z
 unfold dLook at h
 simp only [Option.map_eq_none_iff, List.find?_eq_none] at h
 exact h p hp e
theorem key_ok {ts : List D} {d : D} (hd : Shape d) : keyN (keyOf ts d) = true := by
 unfold keyOf keyN
 simp only [okN, List.all_cons, List.all_nil, Bool.and_true, Bool.and_eq_true]
 refine ⟨okN_mono (by decide) (lab_ok hd), ?_⟩
 simp [okN]
theorem kvs_len (ts : List D) : (kvs ts).length = ts.length := by simp [kvs]
section
variable {FF n k m s a b : Nat} {st : Sto}
noncomputable def fsN (a b : Nat) : List (Str × D) := [(Str.ofString "terms", D.loc a), (Str.ofString "numbers", D.loc b)]
theorem n_tn : (Str.ofString "numbers" == Str.ofString "terms") = false := by decide +kernel
theorem n_mt : (Str.ofString "number" == Str.ofString "terms") = false := by decide +kernel
theorem n_mn : (Str.ofString "number" == Str.ofString "numbers") = false := by decide +kernel
theorem fsN_t : (fsN a b).lookup (Str.ofString "terms") = some (.loc a) := by simp [fsN]
theorem fsN_n : (fsN a b).lookup (Str.ofString "numbers") = some (.loc b) := by simp [fsN, List.lookup, n_tn]
theorem fsN_m : (fsN a b).lookup (Str.ofString "number") = none := by simp [fsN, List.lookup, n_mt, n_mn]
structure Nb (st : Sto) (s a b : Nat) (ts : List D) : Prop where
 i : st[s]? = some (.ins 0 (fsN a b))
 t : st[a]? = some (.lst ts)
 d : st[b]? = some (.dcn (kvs ts))
theorem Nb.sa {st : Sto} {ts : List D} (h : Nb st s a b ts) : s ≠ a := fun e => by have := h.i; rw [e, h.t] at this; cases this
theorem Nb.sb {st : Sto} {ts : List D} (h : Nb st s a b ts) : s ≠ b := fun e => by have := h.i; rw [e, h.d] at this; cases this
theorem Nb.ab {st : Sto} {ts : List D} (h : Nb st s a b ts) : a ≠ b := fun e => by have := h.t; rw [e, h.d] at this; cases this
def FrX (L : Nat) (a b : Nat) (st st' : Sto) : Prop := st.length ≤ st'.length ∧ ∀ j, j < L → j ≠ a → j ≠ b → st'[j]? = st[j]?
theorem FrX.refl {L : Nat} (st : Sto) : FrX L a b st st := ⟨Nat.le_refl _, fun _ _ _ _ => rfl⟩
theorem FrX.trans {L : Nat} {s1 s2 s3 : Sto} (h : FrX L a b s1 s2) (k : FrX L a b s2 s3) : FrX L a b s1 s3 := ⟨Nat.le_trans h.1 k.1, fun j h1 h2 h3 => (k.2 j h1 h2 h3).trans (h.2 j h1 h2 h3)⟩
theorem FrX.down {L L' : Nat} {s1 s2 : Sto} (h : FrX L a b s1 s2) (hl : L' ≤ L) : FrX L' a b s1 s2 := ⟨h.1, fun j h1 => h.2 j (Nat.lt_of_lt_of_le h1 hl)⟩
def NumOk (FF k m s a b : Nat) : Prop := ∀ (d : D), Tm m d → ∀ (st : Sto) (ts : List D), Nb st s a b ts → Good ts → ts.length + B m ≤ 16000000 →
 ∃ st', C FF k 4 [.loc s, d] st = .ok (.int ((grow m ts d).idxOf d : Nat)) st' ∧ Nb st' s a b (grow m ts d) ∧ FrX st.length a b st st'
theorem num_loop (ih : NumOk FF k m s a b) {all : List D} {n0 : Nat} {body : D → Sto → Res (Option D)} (hb : ∀ d st, st[s]? = some (.ins 0 (fsN a b)) → body d st = (C FF k 4 [.loc s, d] st).bind fun y st => .ok (some y) st) {L : Nat} (hL : L ≤ n0) :
    ∀ (xs : List D), (∀ x ∈ xs, Tm m x) → ∀ (ts ys : List D) (st : Sto), Nb st s a b ts → Good ts → st[n0]? = some (.lst ys) → n0 ≠ a → n0 ≠ b → ts.length + xs.length * B m ≤ 16000000 → ys.length + xs.length ≤ 16000000 →
    ∃ st', compLoop all none n0 body xs st = .ok () st' ∧ Nb st' s a b (xs.foldl (grow m) ts) ∧ st'[n0]? = some (.lst (ys ++ xs.map fun x => .int ((xs.foldl (grow m) ts).idxOf x : Nat))) ∧ FrX L a b st st'
  | [], _, ts, ys, st, N, G, hn, _, _, _, _ => ⟨st, by simp [compLoop, stays], N, by simpa using hn, .refl _⟩
  | x :: r, hx, ts, ys, st, N, G, hn, na, nb, h1, h2 => by
    simp only [List.length_cons, Nat.add_mul, Nat.one_mul] at h1 h2
    have hy : ys.length < sizeLine := Nat.lt_of_lt_of_le (by omega : ys.length < 16000000) (by decide)
    obtain ⟨s1, e1, N1, F1⟩ := ih x (hx x (by simp)) st ts N G (by omega)
    have hlt : n0 < st.length := (List.getElem?_eq_some_iff.mp hn).1
    have hn1 : s1[n0]? = some (.lst ys) := by rw [F1.2 n0 hlt na nb]; exact hn
    have ns : n0 ≠ s := fun e => by have := N.i; rw [← e, hn] at this; cases this
    have N2 : Nb (s1.set n0 (.lst (ys ++ [.int ((grow m ts x).idxOf x : Nat)]))) s a b (grow m ts x) := ⟨by rw [List.getElem?_set_ne ns]; exact N1.i, by rw [List.getElem?_set_ne na]; exact N1.t, by rw [List.getElem?_set_ne nb]; exact N1.d⟩
    have G1 := grow_good m ts x G (hx x (by simp))
    have hl := grow_len m ts x (hx x (by simp))
    obtain ⟨s2, e2, N3, hn3, F2⟩ := num_loop ih hb hL r (fun y hy => hx y (List.mem_cons_of_mem _ hy)) (grow m ts x) (ys ++ [.int ((grow m ts x).idxOf x : Nat)]) _ N2 G1 (set_at hn1 _) na nb (by omega) (by simp; omega)
    refine ⟨s2, ?_, N3, ?_, ?_⟩
    · simp only [compLoop, stays, if_true, hb x st N.i, e1, bind_ok, hn1, hy]
      exact e2
    · rw [hn3]
      have hm : x ∈ grow m ts x := by
        cases m with
        | zero => exact (hx x (by simp)).elim
        | succ m => exact grow_self
      simp only [List.foldl_cons, List.map_cons, List.append_assoc, List.singleton_append, idx_pre (fold_pre (grow_pre m) r (grow m ts x)) hm]
    · refine FrX.trans (FrX.trans (F1.down (Nat.le_of_lt (Nat.lt_of_le_of_lt hL hlt))) ⟨by simp, fun j hj _ _ => ?_⟩) F2
      rw [List.getElem?_set_ne (by omega)]
theorem number_step (ih : ∀ m', m = m' + 1 → NumOk FF (k + 1) m' s a b) : NumOk FF (k + 2) m s a b := by
 intro d hd st ts N G hl
 cases m with
 | zero => exact hd.elim
 | succ m =>
  have ih := ih m rfl
  rw [call_at (fn := ⟨2, 3, c_Numbering_9number⟩) rfl rfl (by decide)]
  have hB : B (m + 1) = 1 + 3 * B m := rfl
  have h3 := inn_le hd.1
  have h4 : (inn d).length * B m ≤ 3 * B m := Nat.mul_le_mul_right _ h3
  have hs2 := szl 2 (by decide)
  have la : a < st.length := (List.getElem?_eq_some_iff.mp N.t).1
  have lb : b < st.length := (List.getElem?_eq_some_iff.mp N.d).1
  have ls : s < st.length := (List.getElem?_eq_some_iff.mp N.i).1
  have N0 : Nb (st ++ [.lst []]) s a b ts := ⟨by rw [List.getElem?_append_left ls]; exact N.i, by rw [List.getElem?_append_left la]; exact N.t, by rw [List.getElem?_append_left lb]; exact N.d⟩
  obtain ⟨s1, e1, N1, hn1, F1⟩ := num_loop (all := inn d) (n0 := st.length) (body := turnC tab (C FF (k + 1)) [0] true [none, some (D.loc s)] .nil (.meth 0 4 (Str.ofString "number") (.var 1) (.cons (.var 0) .nil))) ih (fun d st h => by simp [turnC, store, setAll, evalIfs, evalE, evalEs, getV, h, fsN_m]) (Nat.le_refl _) (inn d) hd.2 ts [] _ N0 G (by simp) (by omega) (by omega) (by omega) (by simp; omega)
  have hG := fold_good (grow_good m) (inn d) ts G hd.2
  have hI := fold_has (inn d) ts hd.2
  have hT := fold_len (grow_len m) (inn d) ts hd.2
  have hgr : grow (m + 1) ts d = insN ((inn d).foldl (grow m) ts) d := rfl
  rw [hgr]
  generalize hTT : (inn d).foldl (grow m) ts = T at *
  have hc1 : ∀ z : List (D × D), (kvs T).length < sizeLine := fun _ => by rw [kvs_len]; exact Nat.lt_of_lt_of_le (by omega : T.length < 16000000) (by decide)
  have hc1 := hc1 []
  have hc2 : T.length < sizeLine := by rw [← kvs_len]; exact hc1
  have ev1 : evalE tab (C FF (k + 1)) (.comp 1 true 1 [0] [0] (.call 1 (.cons (.var 1) .nil) []) .nil (.meth 0 4 (Str.ofString "number") (.var 1) (.cons (.var 0) .nil))) [some (.loc s), some d, none] st = .ok (.loc st.length) s1 := by
   have ei : evalE tab (C FF (k + 1)) (.call 1 (.cons (.var 1) .nil) []) [some (.loc s), some d, none] st = .ok (.tup (inn d)) st := by
    simp [evalE, evalEs, getV, terms_in hd.1]
   rw [e_compAt ei rfl]
   have en : envIn 1 [0] [some (.loc s), some d, none] = [none, some (D.loc s)] := rfl
   rw [en, e1]
   rfl
  have ls1 : lstOf s1 st.length = some ((inn d).map fun x => .int (T.idxOf x : Nat)) := by rw [lst_at hn1]; rfl
  have ev2 : evalE tab (C FF (k + 1)) (.tupE (.cons (.call 2 (.cons (.var 1) .nil) []) (.cons (.bt .tupleB (.cons (.comp 1 true 1 [0] [0] (.call 1 (.cons (.var 1) .nil) []) .nil (.meth 0 4 (Str.ofString "number") (.var 1) (.cons (.var 0) .nil))) .nil)) .nil))) [some (.loc s), some d, none] st = .ok (keyOf T d) s1 := by
   rw [evalE, evalEs]
   have e3 : evalE tab (C FF (k + 1)) (.call 2 (.cons (.var 1) .nil) []) [some (.loc s), some d, none] st = .ok (lab d) st := by
    simp [evalE, evalEs, getV, label_of hd.1]
   rw [e3]
   simp only [bind_ok, evalEs]
   rw [evalE]
   simp only [evalEs, ev1, bind_ok, btD, seqOf, ls1, List.length_cons, List.length_nil, keyOf]
   rw [if_pos hs2]
  have dn : dctOf s1 b = none := by simp only [dctOf, N1.d]
  have dd : dcnOf s1 b = some (kvs T) := by simp only [dcnOf, N1.d]
  have kk := key_ok (ts := T) hd.1
  have lk := look_key hG hd.1
  have l1a : a < s1.length := (List.getElem?_eq_some_iff.mp N1.t).1
  have l1b : b < s1.length := (List.getElem?_eq_some_iff.mp N1.d).1
  have l1s : s < s1.length := (List.getElem?_eq_some_iff.mp N1.i).1
  by_cases hm : d ∈ T
  · rw [if_pos hm] at lk
    have hins : insN T d = T := by unfold insN; rw [if_pos hm]
    rw [hins]
    refine ⟨s1, ?_, N1, ?_⟩
    · simp only [c_Numbering_9number, x_cons, x_nil, x_set, x_ret, x_if, List.map_cons, List.map_nil, List.replicate, List.cons_append, List.nil_append, Nat.reduceSub]
      rw [ev2]
      simp [fin, evalT, evalE, getV, N1.i, fsN_n, cmD, inD, dn, dd, kk, lk, x_nil, ixD]
    · exact FrX.trans ⟨by simp, fun j hj _ _ => List.getElem?_append_left hj⟩ F1
  · rw [if_neg hm] at lk
    have hins : insN T d = T ++ [d] := by unfold insN; rw [if_neg hm]
    rw [hins]
    have hput := put_new (v := D.int (T.length : Nat)) lk
    refine ⟨(s1.set b (.dcn (kvs T ++ [(keyOf T d, .int (T.length : Nat))]))).set a (.lst (T ++ [d])), ?_, ?_, ?_⟩
    · have lkp : dLook (kvs T ++ [(keyOf T d, .int (T.length : Nat))]) (keyOf T d) = some (.int (T.length : Nat)) := by
       unfold dLook at lk ⊢
       rw [List.find?_append]
       simp only [Option.map_eq_none_iff] at lk
       simp [lk]
      have q1 : (s1.set b (.dcn (kvs T ++ [(keyOf T d, .int (T.length : Nat))])))[s]? = some (.ins 0 (fsN a b)) := by rw [List.getElem?_set_ne (Ne.symm N.sb)]; exact N1.i
      have q2 : (s1.set b (.dcn (kvs T ++ [(keyOf T d, .int (T.length : Nat))])))[a]? = some (.lst T) := by rw [List.getElem?_set_ne (Ne.symm N.ab)]; exact N1.t
      have q3 : ((s1.set b (.dcn (kvs T ++ [(keyOf T d, .int (T.length : Nat))]))).set a (.lst (T ++ [d])))[s]? = some (.ins 0 (fsN a b)) := by rw [List.getElem?_set_ne (Ne.symm N.sa)]; exact q1
      have q4 : ((s1.set b (.dcn (kvs T ++ [(keyOf T d, .int (T.length : Nat))]))).set a (.lst (T ++ [d])))[b]? = some (.dcn (kvs T ++ [(keyOf T d, .int (T.length : Nat))])) := by rw [List.getElem?_set_ne N.ab]; simp [l1b]
      have dn4 : dctOf ((s1.set b (.dcn (kvs T ++ [(keyOf T d, .int (T.length : Nat))]))).set a (.lst (T ++ [d]))) b = none := by simp only [dctOf, q4]
      have dd4 : dcnOf ((s1.set b (.dcn (kvs T ++ [(keyOf T d, .int (T.length : Nat))]))).set a (.lst (T ++ [d]))) b = some (kvs T ++ [(keyOf T d, .int (T.length : Nat))]) := by simp only [dcnOf, q4]
      have ix : (T ++ [d]).idxOf d = T.length := by rw [List.idxOf_append, if_neg hm]; simp
      rw [ix]
      simp only [c_Numbering_9number, x_cons, x_nil, x_set, x_ret, x_if, List.map_cons, List.map_nil, List.replicate, List.cons_append, List.nil_append, Nat.reduceSub]
      rw [ev2]
      generalize hs3 : (s1.set b (.dcn (kvs T ++ [(keyOf T d, .int (T.length : Nat))]))) = s3 at *
      simp [fin, evalT, evalE, evalEs, getV, N1.i, fsN_n, fsN_t, cmD, inD, dn, dd, kk, lk, x_nil, x_cons, x_ex, ixD, execS, b_lenL (lst_at N1.t), hc1, hput, hs3, q1, q2, q3, q4, rdy, isLst, mtD, hc2, dn4, dd4, lkp]
    · refine ⟨?_, ?_, ?_⟩
      · rw [List.getElem?_set_ne (Ne.symm N.sa), List.getElem?_set_ne (Ne.symm N.sb)]; exact N1.i
      · simp [l1a]
      · rw [List.getElem?_set_ne N.ab, kvs_app hG hI]; simp [l1b]
    · refine FrX.trans ⟨by simp, fun j hj _ _ => List.getElem?_append_left hj⟩ (FrX.trans F1 ⟨by simp, fun j hj h1 h2 => ?_⟩)
      rw [List.getElem?_set_ne (Ne.symm h1), List.getElem?_set_ne (Ne.symm h2)]
theorem number_ok : ∀ (m k : Nat), NumOk FF (m + 1 + k) m s a b
 | 0, k => fun d hd => hd.elim
 | m + 1, k => by
  rw [show m + 1 + 1 + k = (m + k) + 2 by omega]
  refine number_step fun m' e => ?_
  cases e
  rw [show m + k + 1 = m + 1 + k by omega]
  exact number_ok m k
end
section
variable {FF n k m : Nat} {st : Sto}
theorem ge0 {c : Cell} {r : Sto} : (st ++ c :: r)[st.length]? = some c := by simp
theorem ge1 {c d : Cell} {r : Sto} : (st ++ c :: d :: r)[st.length + 1]? = some d := by simp
theorem ge2 {c d e : Cell} {r : Sto} : (st ++ c :: d :: e :: r)[st.length + 2]? = some e := by simp
theorem init_ok : C FF (n + 1) 3 [.loc st.length] (st ++ [.ins 0 []]) = .ok .non (st ++ [.ins 0 (fsN (st.length + 1) (st.length + 2)), .lst [], .dcn []]) := by
 rw [call_at (fn := ⟨1, 1, c_Numbering_9__init__⟩) rfl rfl (by decide)]
 have hs0 := szl 0 (by decide)
 have hne : ¬ Str.ofString "terms" = Str.ofString "numbers" := by decide +kernel
 simp [c_Numbering_9__init__, x_cons, x_nil, execS, evalE, evalEs, fin, getV, hs0, putFD, fsN, hne]
end
section
def AW (w : Str) : Prop := w = Str.ofString "atmost" ∨ w = Str.ofString "below" ∨ w = Str.ofString "same"
inductive At : D → Prop
 | mk (w : Str) (a b : D) : AW w → Tm 2 a → Tm 2 b → At (.tup [.str w, a, b])
noncomputable def oW (o : Bool) : Str := if o then Str.ofString "or" else Str.ofString "and"
inductive Sn : Nat → D → Prop
 | atm {k : Nat} {d : D} : At d → Sn k d
 | neg {k : Nat} {s : D} : Sn k s → Sn (k + 1) (.tup [W "not", s])
 | bin {k : Nat} (o : Bool) (ps : List D) : ps.length ≤ 3 → (∀ p ∈ ps, Sn k p) → Sn (k + 1) (.tup [.str (oW o), .tup ps])
noncomputable def cmb (o : Bool) (l : List (Option Bool)) : Option Bool := if some o ∈ l then some o else if none ∈ l then none else some (!o)
noncomputable def tv : Nat → (D → Option Bool) → D → Option Bool
 | 0, f, d => f d
 | k + 1, f, .tup [.str w, x] => if w = Str.ofString "not" then (tv k f x).map (!·) else (match x with | .tup ps => cmb (decide (w = Str.ofString "or")) (ps.map (tv k f)) | _ => none)
 | _ + 1, f, d => f d
noncomputable def encT : Option Bool → D
 | none => .non
 | some b => .bl b
noncomputable def iv : Option Bool → Int
 | none => 1
 | some true => 2
 | some false => 0
theorem s_or_not : (Str.ofString "or" = Str.ofString "not") = False := by simp only [eq_iff_iff, iff_false]; decide +kernel
theorem s_and_not : (Str.ofString "and" = Str.ofString "not") = False := by simp only [eq_iff_iff, iff_false]; decide +kernel
theorem s_and_or : (Str.ofString "and" = Str.ofString "or") = False := by simp only [eq_iff_iff, iff_false]; decide +kernel
theorem tv_at {k : Nat} {f : D → Option Bool} {d : D} (h : At d) : tv k f d = f d := by
 cases h
 cases k <;> rfl
theorem tv_neg {k : Nat} {f : D → Option Bool} {s : D} : tv (k + 1) f (.tup [W "not", s]) = (tv k f s).map (!·) := by
 simp only [tv, if_true]
theorem oW_not (o : Bool) : (oW o = Str.ofString "not") = False := by cases o <;> simp only [oW, if_true, Bool.false_eq_true, if_false, s_or_not, s_and_not]
theorem oW_or (o : Bool) : decide (oW o = Str.ofString "or") = o := by
 cases o
 · simp only [oW, Bool.false_eq_true, if_false, s_and_or, decide_false]
 · simp only [oW, if_true, decide_true]
theorem tv_bin {k : Nat} {f : D → Option Bool} {o : Bool} {ps : List D} : tv (k + 1) f (.tup [.str (oW o), .tup ps]) = cmb o (ps.map (tv k f)) := by
 simp only [tv, oW_not, if_false, oW_or]
theorem fold_mn : ∀ (l : List (Option Bool)) (c : Option Bool), (l.map iv).foldl (fun m x => if x < m then x else m) (iv c) = iv (if c = some false ∨ some false ∈ l then some false else if c = none ∨ none ∈ l then none else some true)
 | [], c => by rcases c with _ | (_ | _) <;> simp
 | x :: r, c => by
  rw [List.map_cons, List.foldl_cons]
  have h : (if iv x < iv c then iv x else iv c) = iv (if iv x < iv c then x else c) := by split <;> rfl
  rw [h, fold_mn r]
  congr 1
  rcases c with _ | (_ | _) <;> rcases x with _ | (_ | _) <;> simp [iv]
theorem fold_mx : ∀ (l : List (Option Bool)) (c : Option Bool), (l.map iv).foldl (fun m x => if x > m then x else m) (iv c) = iv (if c = some true ∨ some true ∈ l then some true else if c = none ∨ none ∈ l then none else some false)
 | [], c => by rcases c with _ | (_ | _) <;> simp
 | x :: r, c => by
  rw [List.map_cons, List.foldl_cons]
  have h : (if iv x > iv c then iv x else iv c) = iv (if iv x > iv c then x else c) := by split <;> rfl
  rw [h, fold_mx r]
  congr 1
  rcases c with _ | (_ | _) <;> rcases x with _ | (_ | _) <;> simp [iv]
theorem min_cmb (l : List (Option Bool)) : minL (2 :: l.map iv) = iv (cmb false l) := by
 refine (fold_mn l (some true)).trans ?_
 simp [cmb]
theorem max_cmb (l : List (Option Bool)) : maxOr 0 (0 :: l.map iv) = iv (cmb true l) := by
 refine (fold_mx l (some false)).trans ?_
 simp [cmb]
theorem iv_neg (v : Option Bool) : 2 - iv v = iv (v.map (!·)) := by rcases v with _ | (_ | _) <;> rfl
theorem iv_zero (v : Option Bool) : decide (iv v = 0) = decide (v = some false) := by rcases v with _ | (_ | _) <;> rfl
theorem map_nn (v : Option Bool) : (v.map (!·)).map (!·) = v := by rcases v with _ | (_ | _) <;> rfl
noncomputable def fP (P : List (D × Bool)) (d : D) : Option Bool := (P.find? fun p => decide (p.1 = d)).map (·.2)
abbrev Zs := List (D × Nat × Bool × List Bool)
noncomputable def fz (Z : Zs) (d : D) : Option Bool := (Z.find? fun z => decide (z.1 = d)).map (·.2.2.1)
noncomputable def keyAt (ts : List D) : D → D
 | .tup [w, a, b] => .tup [w, .int (ts.idxOf a : Nat), .int (ts.idxOf b : Nat)]
 | _ => .non
def inTs (ts : List D) : D → Prop
 | .tup [_, a, b] => a ∈ ts ∧ b ∈ ts
 | _ => False
theorem key_ext {ts us : List D} (h : ts <+: us) {d : D} (hd : At d) (hi : inTs ts d) : keyAt us d = keyAt ts d := by
 cases hd
 simp only [keyAt, idx_pre h hi.1, idx_pre h hi.2]
theorem inTs_ext {ts us : List D} (h : ts <+: us) {d : D} (hd : At d) (hi : inTs ts d) : inTs us d := by
 cases hd
 exact ⟨h.subset hi.1, h.subset hi.2⟩
theorem key_inj {ts : List D} {d e : D} (hd : At d) (he : At e) (h1 : inTs ts d) (h : keyAt ts d = keyAt ts e) : d = e := by
 cases hd; cases he
 simp only [keyAt, D.tup.injEq, List.cons.injEq, D.str.injEq, D.int.injEq, and_true] at h
 obtain ⟨rfl, e1, e2⟩ := h
 rw [idx_inj h1.1 (Int.ofNat_inj.mp e1), idx_inj h1.2 (Int.ofNat_inj.mp e2)]
theorem lay_aw {w : Str} (h : AW w) : PyData.canLay0 (.str w) = true := by rcases h with rfl | rfl | rfl <;> decide +kernel
theorem keyAt_ok {ts : List D} {d : D} (hd : At d) : keyN (keyAt ts d) = true := by
 cases hd with
 | mk w a b hw _ _ => simp [keyAt, keyN, okN, lay_aw hw]
theorem At.ok {d : D} (h : At d) : okN 5 d = true := by
 cases h with
 | mk w a b hw ha hb => simp [okN, lay_aw hw, ha.ok, hb.ok]
theorem At.keyN {d : D} (h : At d) : DD.keyN d = true := by
 have := okN_mono (m := 8) (by omega) h.ok
 cases h
 exact this
end
section
variable {FF n k L : Nat} {st : Sto}
noncomputable def fsT (L : Nat) : List (Str × D) := [(Str.ofString "numbering", .loc (L + 1)), (Str.ofString "trail", .loc (L + 4)), (Str.ofString "signs", .loc (L + 5))]
theorem n_t_n : (Str.ofString "trail" == Str.ofString "numbering") = false := by decide +kernel
theorem n_s_n : (Str.ofString "signs" == Str.ofString "numbering") = false := by decide +kernel
theorem n_s_t : (Str.ofString "signs" == Str.ofString "trail") = false := by decide +kernel
theorem fsT_n : (fsT L).lookup (Str.ofString "numbering") = some (.loc (L + 1)) := by simp [fsT]
theorem fsT_t : (fsT L).lookup (Str.ofString "trail") = some (.loc (L + 4)) := by simp [fsT, List.lookup, n_t_n]
theorem fsT_s : (fsT L).lookup (Str.ofString "signs") = some (.loc (L + 5)) := by simp [fsT, List.lookup, n_s_n, n_s_t]
theorem fsT_no {x : Str} (h1 : (x == Str.ofString "numbering") = false) (h2 : (x == Str.ofString "trail") = false) (h3 : (x == Str.ofString "signs") = false) : (fsT L).lookup x = none := by simp [fsT, List.lookup, h1, h2, h3]
noncomputable def zKv (ts : List D) (Z : Zs) : List (D × D) := Z.map fun z => (keyAt ts z.1, .loc z.2.1)
structure Tl (st : Sto) (L : Nat) (ts : List D) (Z : Zs) (m : Nat) : Prop where
 i : st[L]? = some (.ins 1 (fsT L))
 nb : Nb st (L + 1) (L + 2) (L + 3) ts
 gd : Good ts
 t : ∃ l, st[L + 4]? = some (.lst l) ∧ l.length ≤ m
 d : st[L + 5]? = some (.dcn (zKv ts Z))
 z : ∀ z ∈ Z, At z.1 ∧ inTs ts z.1 ∧ L + 6 ≤ z.2.1 ∧ st[z.2.1]? = some (.lst ((z.2.2.1 :: z.2.2.2).map .bl)) ∧ z.2.2.2.length ≤ m
 nd : (Z.map (·.2.1)).Nodup
 na : (Z.map (·.1)).Nodup
 zl : Z.length ≤ m
theorem zKv_ext {ts us : List D} (h : ts <+: us) {Z : Zs} (hz : ∀ z ∈ Z, At z.1 ∧ inTs ts z.1) : zKv us Z = zKv ts Z := by
 unfold zKv
 refine List.map_congr_left fun z hm => ?_
 rw [key_ext h (hz z hm).1 (hz z hm).2]
theorem Tl.grow {ts us : List D} {Z : Zs} {m : Nat} {s s' : Sto} (T : Tl s L ts Z m) (N : Nb s' (L + 1) (L + 2) (L + 3) us) (G : Good us) (h : ts <+: us) (F : FrX s.length (L + 2) (L + 3) s s') : Tl s' L us Z m := by
 have at' : ∀ {j : Nat} {c : Cell}, s[j]? = some c → j ≠ L + 2 → j ≠ L + 3 → s'[j]? = some c := fun {j c} e h1 h2 => (F.2 j (List.getElem?_eq_some_iff.mp e).1 h1 h2).trans e
 obtain ⟨l, hl, hm⟩ := T.t
 refine ⟨at' T.i (by omega) (by omega), N, G, ⟨l, at' hl (by omega) (by omega), hm⟩, ?_, fun z hz => ?_, T.nd, T.na, T.zl⟩
 · rw [zKv_ext h fun z hz => ⟨(T.z z hz).1, (T.z z hz).2.1⟩]
   exact at' T.d (by omega) (by omega)
 · obtain ⟨h1, h2, h3, h4, h5⟩ := T.z z hz
   exact ⟨h1, inTs_ext h h1 h2, h3, at' h4 (by omega) (by omega), h5⟩
theorem Tl.mono {ts : List D} {Z : Zs} {m : Nat} {s s' : Sto} (T : Tl s L ts Z m) (F : Fr s s') : Tl s' L ts Z m := by
 obtain ⟨l, hl, hm⟩ := T.t
 refine ⟨F.at T.i, ⟨F.at T.nb.i, F.at T.nb.t, F.at T.nb.d⟩, T.gd, ⟨l, F.at hl, hm⟩, F.at T.d, fun z hz => ?_, T.nd, T.na, T.zl⟩
 obtain ⟨h1, h2, h3, h4, h5⟩ := T.z z hz
 exact ⟨h1, h2, h3, F.at h4, h5⟩
theorem b2 : B 2 = 4 := rfl
theorem number_of {ts : List D} {Z : Zs} {m : Nat} {t : D} (T : Tl st L ts Z m) (ht : Tm 2 t) (hl : ts.length ≤ 15000000) : Wr (C FF (n + 4) 7 [.loc L, t] st) fun d s => ∃ us, d = .int (us.idxOf t : Nat) ∧ t ∈ us ∧ ts <+: us ∧ us.length ≤ ts.length + 4 ∧ Tl s L us Z m ∧ FrX st.length (L + 2) (L + 3) st s := by
 refine w_fn [some (.loc L), some t] (b := c_Tellings_9number_of) rfl rfl (by decide) rfl ?_
 unfold c_Tellings_9number_of
 obtain ⟨s', e, N, F⟩ := number_ok (FF := FF) (s := L + 1) (a := L + 2) (b := L + 3) 2 n t ht st ts T.nb T.gd (by rw [b2]; omega)
 have e2 := e
 rw [show 2 + 1 + n = n + 3 by omega] at e2
 refine ws_cons (ws_ret (w_meth (w_fld (w_var rfl ⟨L, fsT L, _, rfl, T.i, fsT_n, L + 1, _, rfl, T.nb.i, fsN_m, w_cons (w_var rfl (w_nil (wr_of e2 ?_)))⟩))))
 have G := grow_good 2 ts t T.gd ht
 have P := grow_pre 2 ts t
 have Ln := grow_len 2 ts t ht
 exact ⟨_, rfl, grow_self, P, by rw [b2] at Ln; exact Ln, T.grow N G P F, F⟩
theorem n_no1 : (Str.ofString "number_of" == Str.ofString "numbering") = false := by decide +kernel
theorem n_no2 : (Str.ofString "number_of" == Str.ofString "trail") = false := by decide +kernel
theorem n_no3 : (Str.ofString "number_of" == Str.ofString "signs") = false := by decide +kernel
theorem n_ko1 : (Str.ofString "key_of" == Str.ofString "numbering") = false := by decide +kernel
theorem n_ko2 : (Str.ofString "key_of" == Str.ofString "trail") = false := by decide +kernel
theorem n_ko3 : (Str.ofString "key_of" == Str.ofString "signs") = false := by decide +kernel
theorem key_of {ts : List D} {Z : Zs} {m : Nat} {d : D} (T : Tl st L ts Z m) (hd : At d) (hl : ts.length ≤ 14000000) : Wr (C FF (n + 5) 6 [.loc L, d] st) fun r s => ∃ us, r = keyAt us d ∧ inTs us d ∧ ts <+: us ∧ us.length ≤ ts.length + 8 ∧ Tl s L us Z m ∧ FrX st.length (L + 2) (L + 3) st s := by
 cases hd with
 | mk w a b hw ha hb =>
  refine w_fn [some (.loc L), some (.tup [.str w, a, b]), none, none, none] (b := c_Tellings_9key_of) rfl rfl (by decide) rfl ?_
  unfold c_Tellings_9key_of
  refine ws_cons (ws_unp (w_var rfl ⟨_, rfl, k_next (ws_cons (ws_ret (w_tup (w_cons (w_var rfl (w_cons (w_meth (w_var rfl ⟨L, _, rfl, T.i, fsT_no n_no1 n_no2 n_no3, w_cons (w_var rfl (w_nil ((number_of (n := n) T ha (by omega)).imp ?_)))⟩))))))))⟩))
  rintro _ s1 ⟨us, rfl, m1, p1, l1, T1, F1⟩
  refine w_cons (w_meth (w_var rfl ⟨L, _, rfl, T1.i, fsT_no n_no1 n_no2 n_no3, w_cons (w_var rfl (w_nil ((number_of (n := n) T1 hb (by omega)).imp ?_)))⟩))
  rintro _ s2 ⟨vs, rfl, m2, p2, l2, T2, F2⟩
  refine w_nil ⟨szl 3 (by decide), k_ret (kf_ret ⟨vs, ?_, ⟨p2.subset m1, m2⟩, p1.trans p2, by omega, T2, F1.trans (F2.down F1.1)⟩)⟩
  simp only [keyAt, idx_pre p2 m1]
noncomputable def tellZ (Z : Zs) (d : D) (b : Bool) (c : Nat) : Zs := if (Z.any fun z => decide (z.1 = d)) = true then Z.map fun z => if z.1 = d then (z.1, z.2.1, z.2.2.1, z.2.2.2 ++ [b]) else z else Z ++ [(d, c, b, [])]
theorem fz_tell (Z : Zs) (d : D) (b : Bool) (c : Nat) (x : D) : fz (tellZ Z d b c) x = match fz Z x with | some v => some v | none => if d = x then some b else none := by
 unfold tellZ
 split
 · rename_i h
   have e : fz (Z.map fun z => if z.1 = d then (z.1, z.2.1, z.2.2.1, z.2.2.2 ++ [b]) else z) x = fz Z x := by
    clear h
    induction Z with
    | nil => rfl
    | cons z r ih =>
     unfold fz at ih ⊢
     rw [List.map_cons, List.find?_cons, List.find?_cons]
     by_cases q : z.1 = d
     · rw [if_pos q]
       by_cases w : z.1 = x
       · simp [w]
       · simp only [decide_eq_false w]; exact ih
     · rw [if_neg q]
       by_cases w : z.1 = x
       · simp [w]
       · simp only [decide_eq_false w]; exact ih
   rw [e]
   cases hf : fz Z x with
   | some v => rfl
   | none =>
    by_cases w : d = x
    · subst w
      obtain ⟨z, hz, q⟩ := List.any_eq_true.mp h
      unfold fz at hf
      rw [Option.map_eq_none_iff, List.find?_eq_none] at hf
      exact absurd q (hf z hz)
    · rw [if_neg w]
 · unfold fz
   rw [List.find?_append]
   cases Z.find? (fun z => decide (z.1 = x)) with
   | some v => rfl
   | none => by_cases w : d = x <;> simp [w]
theorem r_sdS {Q : D → Sto → Prop} {n : Nat} {kvs : List (D × D)} {k d x : D} (g : st[n]? = some (.dcn kvs)) (hk : keyN k = true) (hl : kvs.length < sizeLine) (e : dLook kvs k = some d) (h : Q d st) : Wr (mtD .sdefN (.loc n) [k, x] st) Q := ⟨_, _, by simp only [mtD, dcnOf, g, hk, hl, and_self, if_true, e], h⟩
theorem r_sdN {Q : D → Sto → Prop} {n : Nat} {kvs : List (D × D)} {k x : D} (g : st[n]? = some (.dcn kvs)) (hk : keyN k = true) (hl : kvs.length < sizeLine) (e : dLook kvs k = none) (h : Q x (st.set n (.dcn (dPut kvs k x)))) : Wr (mtD .sdefN (.loc n) [k, x] st) Q := ⟨_, _, by simp only [mtD, dcnOf, g, hk, hl, and_self, if_true, e], h⟩
theorem r_gN1 {Q : D → Sto → Prop} {n : Nat} {kvs : List (D × D)} {k : D} (g : st[n]? = some (.dcn kvs)) (hk : keyN k = true) (h : Q ((dLook kvs k).getD .non) st) : Wr (mtD .getN (.loc n) [k] st) Q := ⟨_, _, by simp only [mtD, dcnOf, g, hk, if_true], h⟩
theorem r_gN2 {Q : D → Sto → Prop} {n : Nat} {kvs : List (D × D)} {k x : D} (g : st[n]? = some (.dcn kvs)) (hk : keyN k = true) (h : Q ((dLook kvs k).getD x) st) : Wr (mtD .getN (.loc n) [k, x] st) Q := ⟨_, _, by simp only [mtD, dcnOf, g, hk, if_true], h⟩
theorem rdy_dcn {m : Mt} {n : Nat} {kvs : List (D × D)} (g : st[n]? = some (.dcn kvs)) (hm : rdy m st (.loc n) = (dcnOf st n).isSome := by rfl) : rdy m st (.loc n) = true := by rw [hm]; simp only [dcnOf, g, Option.isSome_some]
theorem nd_inj {α β : Type} {f : α → β} : ∀ {l : List α}, (l.map f).Nodup → ∀ {x y : α}, x ∈ l → y ∈ l → f x = f y → x = y
 | [], _, x, y, hx, _, _ => by cases hx
 | a :: r, h, x, y, hx, hy, e => by
  rw [List.map_cons, List.nodup_cons] at h
  rcases List.mem_cons.mp hx with rfl | hx2 <;> rcases List.mem_cons.mp hy with rfl | hy2
  · rfl
  · exact absurd (e ▸ List.mem_map_of_mem hy2) h.1
  · exact absurd (e ▸ List.mem_map_of_mem hx2) h.1
  · exact nd_inj h.2 hx2 hy2 e
theorem look_z {ts : List D} {d : D} (hd : At d) (hi : inTs ts d) : ∀ {Z : Zs}, (∀ z ∈ Z, At z.1 ∧ inTs ts z.1) → dLook (zKv ts Z) (keyAt ts d) = (Z.find? fun z => decide (z.1 = d)).map fun z => .loc z.2.1
 | [], _ => rfl
 | z :: r, h => by
  have ih := look_z hd hi (Z := r) fun y hy => h y (by simp [hy])
  unfold dLook zKv at ih ⊢
  rw [List.map_cons, List.find?_cons, List.find?_cons]
  by_cases q : z.1 = d
  · simp [q]
  · have : ¬ keyAt ts z.1 = keyAt ts d := fun e => q (key_inj (h z (by simp)).1 hd (h z (by simp)).2 e)
    simp only [decide_eq_false q, decide_eq_false this]
    exact ih
def FrL (L : Nat) (s s' : Sto) : Prop := s.length ≤ s'.length ∧ ∀ j, j < L → s'[j]? = s[j]?
theorem FrL.trans {a b c : Sto} (h : FrL L a b) (k : FrL L b c) : FrL L a c := ⟨Nat.le_trans h.1 k.1, fun j hj => (k.2 j hj).trans (h.2 j hj)⟩
theorem FrL.of {a b : Sto} (hL : L ≤ a.length) (h : FrX a.length (L + 2) (L + 3) a b) : FrL L a b := ⟨h.1, fun j hj => h.2 j (by omega) (by omega) (by omega)⟩
theorem FrL.set {a b : Sto} (h : FrL L a b) {n : Nat} (hn : L ≤ n) (c : Cell) : FrL L a (b.set n c) := ⟨by rw [List.length_set]; exact h.1, fun j hj => by rw [List.getElem?_set_ne (by omega)]; exact h.2 j hj⟩
theorem FrL.app {a b : Sto} (h : FrL L a b) (hL : L ≤ a.length) (c : Sto) : FrL L a (b ++ c) := ⟨by rw [List.length_append]; exact Nat.le_trans h.1 (Nat.le_add_right _ _), fun j hj => by rw [List.getElem?_append_left (by have := h.1; omega)]; exact h.2 j hj⟩
theorem tell_ok {ts : List D} {Z : Zs} {m : Nat} {d : D} {b : Bool} (T : Tl st L ts Z m) (hd : At d) (hl : ts.length ≤ 14000000) (hm : m < 1000) : Wr (C FF (n + 6) 8 [.loc L, d, .bl b] st) fun r s => ∃ us c, ts <+: us ∧ us.length ≤ ts.length + 8 ∧ Tl s L us (tellZ Z d b c) (m + 1) ∧ FrL L st s := by
 refine w_fn [some (.loc L), some d, some (.bl b), none] (b := c_Tellings_9tell) rfl rfl (by decide) rfl ?_
 unfold c_Tellings_9tell
 have hL0 := (List.getElem?_eq_some_iff.mp T.i).1
 refine ws_cons (ws_set (w_meth (w_var rfl ⟨L, _, rfl, T.i, fsT_no n_ko1 n_ko2 n_ko3, w_cons (w_var rfl (w_nil ((key_of (n := n) T hd hl).imp ?_)))⟩)))
 rintro _ s1 ⟨us, rfl, hi, p1, l1, T1, F1⟩
 have F1 := FrL.of (Nat.le_of_lt hL0) F1
 obtain ⟨l, hl, lm⟩ := T1.t
 have hk := keyAt_ok (ts := us) hd
 refine ⟨of_decide_eq_true rfl, k_next (ws_cons (ws_ex (w_mt (w_fld (w_var rfl ⟨L, _, _, rfl, T1.i, fsT_t, rdy_lst hl, w_cons (w_var rfl (w_nil (r_append hl (Nat.lt_of_lt_of_le (by omega : l.length < 16000000) (by decide)) ?_)))⟩)))))⟩
 have F2 := F1.set (n := L + 4) (by omega) (.lst (l ++ [keyAt us d]))
 have T2 : Tl (s1.set (L + 4) (.lst (l ++ [keyAt us d]))) L us Z (m + 1) := by
  have at' : ∀ {j : Nat} {c : Cell}, s1[j]? = some c → L + 4 ≠ j → (s1.set (L + 4) (.lst (l ++ [keyAt us d])))[j]? = some c := fun {j c} e h1 => by rw [List.getElem?_set_ne h1]; exact e
  refine ⟨at' T1.i (by omega), ⟨at' T1.nb.i (by omega), at' T1.nb.t (by omega), at' T1.nb.d (by omega)⟩, T1.gd, ⟨_, set_at hl _, by simp; omega⟩, at' T1.d (by omega), fun z hz => ?_, T1.nd, T1.na, by have := T1.zl; omega⟩
  obtain ⟨h1, h2, h3, h4, h5⟩ := T1.z z hz
  exact ⟨h1, h2, h3, at' h4 (by omega), by omega⟩
 generalize s1.set (L + 4) (.lst (l ++ [keyAt us d])) = s2 at *
 have hL2 := (List.getElem?_eq_some_iff.mp T2.d).1
 have Fa : Fr s2 (s2 ++ [Cell.lst []]) := .app _
 refine k_next (ws_cons (ws_ex (w_mt (w_mt (w_fld (w_var rfl ⟨L, _, _, rfl, T2.i, fsT_s, rdy_dcn T2.d, w_cons (w_var rfl (w_cons (w_lst (w_nil ⟨szl 0 (by decide), w_nil ?_⟩))))⟩))))))
 have T3 := T2.mono Fa
 have hz1 : (zKv us Z).length < sizeLine := Nat.lt_of_lt_of_le (by have := T1.zl; simp [zKv]; omega : (zKv us Z).length < 16000000) (by decide)
 have lk := look_z hd hi (Z := Z) fun z hz => ⟨(T3.z z hz).1, (T3.z z hz).2.1⟩
 have F3 := F2.app (Nat.le_of_lt hL0) [Cell.lst []]
 cases hf : Z.find? (fun z => decide (z.1 = d)) with
 | some z =>
  rw [hf] at lk
  have hz : z ∈ Z := List.mem_of_find?_eq_some hf
  have ez : z.1 = d := by have := List.find?_some hf; simpa using this
  obtain ⟨h1, h2, h3, h4, h5⟩ := T3.z z hz
  refine r_sdS T3.d hk hz1 lk ⟨rdy_lst h4, w_cons (w_var rfl (w_nil (r_append h4 (Nat.lt_of_lt_of_le (by simp; omega : ((z.2.2.1 :: z.2.2.2).map D.bl).length < 16000000) (by decide)) (k_next (ws_nil ?_)))))⟩
  have hany : (Z.any fun z => decide (z.1 = d)) = true := List.any_eq_true.mpr ⟨z, hz, by simpa using ez⟩
  refine ⟨us, 0, p1, by omega, ?_, F3.set (by omega) _⟩
  rw [show tellZ Z d b 0 = Z.map (fun z => if z.1 = d then (z.1, z.2.1, z.2.2.1, z.2.2.2 ++ [b]) else z) by unfold tellZ; rw [if_pos hany]]
  generalize s2 ++ [Cell.lst []] = s3 at *
  have at' : ∀ {j : Nat} {c : Cell}, s3[j]? = some c → z.2.1 ≠ j → (s3.set z.2.1 (.lst ((z.2.2.1 :: z.2.2.2).map D.bl ++ [.bl b])))[j]? = some c := fun {j c} e h1 => by rw [List.getElem?_set_ne h1]; exact e
  obtain ⟨l3, hl3, lm3⟩ := T3.t
  have em1 : (Z.map (fun z => if z.1 = d then (z.1, z.2.1, z.2.2.1, z.2.2.2 ++ [b]) else z)).map (·.1) = Z.map (·.1) := by rw [List.map_map]; exact List.map_congr_left fun y _ => by simp only [Function.comp]; split <;> rfl
  have em2 : (Z.map (fun z => if z.1 = d then (z.1, z.2.1, z.2.2.1, z.2.2.2 ++ [b]) else z)).map (·.2.1) = Z.map (·.2.1) := by rw [List.map_map]; exact List.map_congr_left fun y _ => by simp only [Function.comp]; split <;> rfl
  have em3 : zKv us (Z.map (fun z => if z.1 = d then (z.1, z.2.1, z.2.2.1, z.2.2.2 ++ [b]) else z)) = zKv us Z := by unfold zKv; rw [List.map_map]; exact List.map_congr_left fun y _ => by simp only [Function.comp]; split <;> rfl
  refine ⟨at' T3.i (by omega), ⟨at' T3.nb.i (by omega), at' T3.nb.t (by omega), at' T3.nb.d (by omega)⟩, T3.gd, ⟨l3, at' hl3 (by omega), lm3⟩, by rw [em3]; exact at' T3.d (by omega), fun y hy => ?_, by rw [em2]; exact T3.nd, by rw [em1]; exact T3.na, by rw [List.length_map]; exact T3.zl⟩
  obtain ⟨x, hx, rfl⟩ := List.mem_map.mp hy
  obtain ⟨g1, g2, g3, g4, g5⟩ := T3.z x hx
  by_cases e : x.1 = d
  · have : x = z := nd_inj T3.na hx hz (e.trans ez.symm)
    subst this
    rw [if_pos e]
    have g5' := (T1.z x hz).2.2.2.2
    exact ⟨g1, g2, g3, by show (s3.set x.2.1 _)[x.2.1]? = _; rw [set_at g4]; simp, by simp; omega⟩
  · rw [if_neg e]
    exact ⟨g1, g2, g3, at' g4 (fun w => e (by rw [← nd_inj T3.nd hz hx w]; exact ez)), g5⟩
 | none =>
  rw [hf] at lk
  have hany : ¬ (Z.any fun z => decide (z.1 = d)) = true := fun w => by
   obtain ⟨z, hz, q⟩ := List.any_eq_true.mp w
   exact absurd q (List.find?_eq_none.mp hf z hz)
  refine r_sdN T3.d hk hz1 lk ?_
  rw [put_new lk]
  have hl : ((s2 ++ [Cell.lst []]).set (L + 5) (.dcn (zKv us Z ++ [(keyAt us d, .loc s2.length)])))[s2.length]? = some (.lst []) := by rw [List.getElem?_set_ne (by omega)]; exact gg0.trans rfl
  refine ⟨rdy_lst hl, w_cons (w_var rfl (w_nil (r_append hl (by decide) (k_next (ws_nil ?_)))))⟩
  have hl3 : (s2 ++ [Cell.lst []])[s2.length]? = some (.lst []) := gg0.trans rfl
  refine ⟨us, s2.length, p1, by omega, ?_, (F3.set (by omega) _).set (by omega) _⟩
  rw [show tellZ Z d b s2.length = Z ++ [(d, s2.length, b, [])] by unfold tellZ; rw [if_neg hany]]
  have bel : ∀ z ∈ Z, z.2.1 < s2.length := fun z hz => (List.getElem?_eq_some_iff.mp (T2.z z hz).2.2.2.1).1
  have hb := T2.nb
  have lt1 := (List.getElem?_eq_some_iff.mp hb.i).1
  obtain ⟨l3, hl5, lm3⟩ := T3.t
  generalize hc : s2.length = c at *
  generalize s2 ++ [Cell.lst []] = s3 at *
  have at' : ∀ {j : Nat} {x : Cell}, s3[j]? = some x → L + 5 ≠ j → c ≠ j → ((s3.set (L + 5) (.dcn (zKv us Z ++ [(keyAt us d, .loc c)]))).set c (.lst ([] ++ [.bl b])))[j]? = some x := fun {j x} e h1 h2 => by rw [List.getElem?_set_ne h2, List.getElem?_set_ne h1]; exact e
  refine ⟨at' T3.i (by omega) (by omega), ⟨at' T3.nb.i (by omega) (by omega), at' T3.nb.t (by omega) (by omega), at' T3.nb.d (by omega) (by omega)⟩, T3.gd, ⟨l3, at' hl5 (by omega) (by omega), lm3⟩, ?_, fun y hy => ?_, ?_, ?_, by have := T1.zl; simp; omega⟩
  · rw [List.getElem?_set_ne (by omega), set_at T3.d]
    simp [zKv]
  · rcases List.mem_append.mp hy with hy | hy
    · obtain ⟨g1, g2, g3, g4, g5⟩ := T3.z y hy
      have := bel y hy
      exact ⟨g1, g2, g3, at' g4 (by omega) (by omega), g5⟩
    · obtain rfl := List.mem_singleton.mp hy
      exact ⟨hd, hi, by show L + 6 ≤ c; omega, set_at hl _, by simp⟩
  · rw [List.map_append, List.nodup_append]
    refine ⟨T3.nd, by simp, fun x hx y hy e => ?_⟩
    obtain ⟨z, hz, rfl⟩ := List.mem_map.mp hx
    have := bel z hz
    have hy : y = c := by simpa using hy
    omega
  · rw [List.map_append, List.nodup_append]
    refine ⟨T3.na, by simp, fun x hx y hy e => ?_⟩
    obtain ⟨z, hz, rfl⟩ := List.mem_map.mp hx
    have hy : y = d := by simpa using hy
    exact hany (List.any_eq_true.mpr ⟨z, hz, by simpa using e.trans hy⟩)
end
section
variable {FF n k L : Nat} {st : Sto}
theorem s_n_t : (Str.ofString "numbering" = Str.ofString "trail") = False := by simp only [eq_iff_iff, iff_false]; decide +kernel
theorem s_n_s : (Str.ofString "numbering" = Str.ofString "signs") = False := by simp only [eq_iff_iff, iff_false]; decide +kernel
theorem s_t_s : (Str.ofString "trail" = Str.ofString "signs") = False := by simp only [eq_iff_iff, iff_false]; decide +kernel
theorem tinit : Wr (C FF (n + 2) 5 [.loc st.length] (st ++ [.ins 1 []])) fun r s => r = .non ∧ Tl s st.length [] [] 0 ∧ FrL st.length st s := by
 refine w_fn [some (.loc st.length)] (b := c_Tellings_9__init__) rfl rfl (by decide) rfl ?_
 unfold c_Tellings_9__init__
 have e0 := init_ok (FF := FF) (n := n) (st := st ++ [.ins 1 []])
 have el : (st ++ [Cell.ins 1 []]).length = st.length + 1 := by simp
 obtain ⟨s1, hs1⟩ : ∃ s1 : Sto, s1 = (st ++ [Cell.ins 1 []]) ++ [Cell.ins 0 (fsN ((st ++ [Cell.ins 1 []]).length + 1) ((st ++ [Cell.ins 1 []]).length + 2)), Cell.lst [], Cell.dcn []] := ⟨_, rfl⟩
 rw [← hs1] at e0
 have g0 : s1[st.length]? = some (.ins 1 []) := by rw [hs1, List.getElem?_append_left (by simp)]; exact gg0.trans rfl
 have N1 : Nb s1 (st.length + 1) (st.length + 2) (st.length + 3) [] := by
  have q : Nb s1 (st ++ [Cell.ins 1 []]).length ((st ++ [Cell.ins 1 []]).length + 1) ((st ++ [Cell.ins 1 []]).length + 2) [] := by rw [hs1]; exact ⟨ge0, ge1, ge2⟩
  rw [el] at q; exact q
 have F1 : FrL st.length st s1 := ⟨by rw [hs1]; simp, fun j hj => by rw [hs1, List.append_assoc, List.getElem?_append_left hj]⟩
 have l1 : s1.length = st.length + 4 := by rw [hs1]; simp
 refine ws_cons (ws_setf (w_mk (w_nil (wr_of e0 ⟨rfl, w_var rfl ⟨st.length, [], rfl, g0, by decide, ?_⟩⟩))))
 rw [el]
 clear hs1 e0 el
 generalize st.length = L at *
 have set' : ∀ {s : Sto} {c : Cell} {ts : List D}, Nb s (L + 1) (L + 2) (L + 3) ts → Nb (s.set L c) (L + 1) (L + 2) (L + 3) ts := fun {s c ts} N => ⟨by rw [List.getElem?_set_ne (by omega)]; exact N.i, by rw [List.getElem?_set_ne (by omega)]; exact N.t, by rw [List.getElem?_set_ne (by omega)]; exact N.d⟩
 have app' : ∀ {s : Sto} {c : Cell} {ts : List D}, Nb s (L + 1) (L + 2) (L + 3) ts → Nb (s ++ [c]) (L + 1) (L + 2) (L + 3) ts := fun {s c ts} N => ⟨(Fr.app _).at N.i, (Fr.app _).at N.t, (Fr.app _).at N.d⟩
 have N2 := set' (c := .ins 1 (putFD (Str.ofString "numbering") (.loc (L + 1)) [])) N1
 have g2 := set_at g0 (.ins 1 (putFD (Str.ofString "numbering") (.loc (L + 1)) []))
 have F2 := F1.set (n := L) (Nat.le_refl _) (.ins 1 (putFD (Str.ofString "numbering") (.loc (L + 1)) []))
 have l2 : (s1.set L (.ins 1 (putFD (Str.ofString "numbering") (.loc (L + 1)) []))).length = L + 4 := by simp [l1]
 refine k_next ?_
 generalize s1.set L (.ins 1 (putFD (Str.ofString "numbering") (.loc (L + 1)) [])) = s2 at *
 refine ws_cons (ws_setf (w_lst (w_nil ⟨szl 0 (by decide), w_var rfl ⟨L, _, rfl, (Fr.app _).at g2, by simp [putFD], ?_⟩⟩)))
 have e4 : (s2 ++ [Cell.lst []])[L + 4]? = some (.lst []) := by rw [← l2]; exact gg0.trans rfl
 have N3 := app' (c := .lst []) N2
 have F3 : FrL L st (s2 ++ [Cell.lst []]) := ⟨by simp; have := F2.1; omega, fun j hj => by rw [List.getElem?_append_left (by omega)]; exact F2.2 j hj⟩
 have g3 : (s2 ++ [Cell.lst []])[L]? = _ := (Fr.app _).at g2
 have l3 : (s2 ++ [Cell.lst []]).length = L + 5 := by simp [l2]
 refine k_next ?_
 rw [l2]
 generalize s2 ++ [Cell.lst []] = s3 at *
 have N4 := set' (c := .ins 1 (putFD (Str.ofString "trail") (.loc (L + 4)) (putFD (Str.ofString "numbering") (.loc (L + 1)) []))) N3
 have g4 := set_at g3 (.ins 1 (putFD (Str.ofString "trail") (.loc (L + 4)) (putFD (Str.ofString "numbering") (.loc (L + 1)) [])))
 have F4 := F3.set (n := L) (Nat.le_refl _) (.ins 1 (putFD (Str.ofString "trail") (.loc (L + 4)) (putFD (Str.ofString "numbering") (.loc (L + 1)) [])))
 have l4 : (s3.set L (.ins 1 (putFD (Str.ofString "trail") (.loc (L + 4)) (putFD (Str.ofString "numbering") (.loc (L + 1)) [])))).length = L + 5 := by simp [l3]
 have e5 : (s3.set L (.ins 1 (putFD (Str.ofString "trail") (.loc (L + 4)) (putFD (Str.ofString "numbering") (.loc (L + 1)) []))))[L + 4]? = some (.lst []) := by rw [List.getElem?_set_ne (by omega)]; exact e4
 generalize s3.set L (.ins 1 (putFD (Str.ofString "trail") (.loc (L + 4)) (putFD (Str.ofString "numbering") (.loc (L + 1)) []))) = s4 at *
 refine ws_cons (ws_setf (w_dnewN (w_var rfl ⟨L, _, rfl, (Fr.app _).at g4, by simp [putFD, s_n_t], ?_⟩)))
 refine k_next (ws_nil ⟨rfl, ⟨?_, set' (app' N4), .nil, ⟨[], ?_, by simp⟩, ?_, fun z hz => (by cases hz), by simp, by simp, by simp⟩, ?_⟩)
 · rw [set_at ((Fr.app _).at g4), l4]
   simp [putFD, fsT, s_n_t, s_n_s, s_t_s]
 · rw [List.getElem?_set_ne (by omega)]
   exact (Fr.app _).at e5
 · rw [List.getElem?_set_ne (by omega), ← l4]
   exact gg0.trans rfl
 · refine ⟨by simp; have := F4.1; omega, fun j hj => ?_⟩
   rw [List.getElem?_set_ne (by omega), List.getElem?_append_left (by omega)]
   exact F4.2 j hj
theorem fP_snoc (P : List (D × Bool)) (d : D) (b : Bool) (x : D) : fP (P ++ [(d, b)]) x = match fP P x with | some v => some v | none => if d = x then some b else none := by
 unfold fP
 rw [List.find?_append]
 cases P.find? (fun p => decide (p.1 = x)) with
 | some v => rfl
 | none => by_cases w : d = x <;> simp [w]
noncomputable def encS (p : D × Bool) : D := .tup [p.1, .bl p.2]
theorem n_te1 : (Str.ofString "tell" == Str.ofString "numbering") = false := by decide +kernel
theorem n_te2 : (Str.ofString "tell" == Str.ofString "trail") = false := by decide +kernel
theorem n_te3 : (Str.ofString "tell" == Str.ofString "signs") = false := by decide +kernel
theorem tellings_of {P : List (D × Bool)} (hP : ∀ p ∈ P, At p.1) (hl : P.length ≤ 100) : Wr (C FF (n + 7) 16 [.tup (P.map encS)] st) fun r s => r = .loc st.length ∧ ∃ ts Z, Tl s st.length ts Z P.length ∧ ts.length ≤ 8 * P.length ∧ fz Z = fP P ∧ FrL st.length st s := by
 refine w_fn [some (.tup (P.map encS)), none, none, none] (b := c_tellings_of) rfl rfl (by decide) rfl ?_
 unfold c_tellings_of
 refine ws_cons (ws_set (w_mk (w_nil ((tinit (n := n + 4)).imp ?_))))
 rintro _ s1 ⟨rfl, T1, F1⟩
 refine ⟨rfl, of_decide_eq_true rfl, k_next (ws_cons (ws_for (w_var rfl ⟨P.map encS, none, rfl, ?_⟩)))⟩
 refine w_loop (fun i env s => (∃ a b, env = [some (.tup (P.map encS)), some (.loc st.length), a, b]) ∧ ∃ ts Z, Tl s st.length ts Z i ∧ ts.length ≤ 8 * i ∧ fz Z = fP (P.take i) ∧ FrL st.length st s) (fun _ _ _ _ => rfl) ⟨⟨_, _, rfl⟩, [], [], T1, by simp, by funext x; simp [fz, fP], F1⟩ ?_ ?_
 · rintro j d hd env s ⟨⟨a, b, rfl⟩, ts, Z, T, hts, hf, F⟩
   rw [List.getElem?_map] at hd
   cases hx : P[j]? with
   | none => rw [hx] at hd; cases hd
   | some p =>
    rw [hx] at hd; cases hd
    have hj := (List.getElem?_eq_some_iff.mp hx).1
    refine w_turn (env' := [some (.tup (P.map encS)), some (.loc st.length), some p.1, some (.bl p.2)]) rfl ?_
    refine ws_cons (ws_ex (w_meth (w_var rfl ⟨st.length, _, rfl, T.i, fsT_no n_te1 n_te2 n_te3, w_cons (w_var rfl (w_cons (w_var rfl (w_nil ((tell_ok (n := n) T (hP p (List.mem_of_getElem? hx)) (by omega) (by omega)).imp ?_)))))⟩)))
    rintro _ s2 ⟨us, c, p1, l1, T2, F2⟩
    refine k_next (ws_nil ⟨_, rfl, ⟨_, _, rfl⟩, us, _, T2, by omega, ?_, F.trans F2⟩)
    funext x
    rw [fz_tell, hf, List.take_add_one, hx, Option.toList_some, fP_snoc] <;> rfl
 · rintro env s ⟨⟨a, b, rfl⟩, ts, Z, T, hts, hf, F⟩
   rw [List.length_map] at T hts hf
   rw [List.take_length] at hf
   exact k_next (ws_cons (ws_ret (w_var rfl (k_ret (kf_ret ⟨rfl, ts, Z, T, hts, hf, F⟩)))))
end
section
variable {FF n k L : Nat} {st : Sto}
noncomputable def lkz (ts : List D) (Z : Zs) (key : D) : Option Bool := (Z.find? fun z => decide (keyAt ts z.1 = key)).map (·.2.2.1)
inductive KT (Lk : D → Option Bool) : Nat → D → Option Bool → Prop
 | key {k : Nat} {x : D} : keyN x = true → KT Lk k (.tup [W "key", x]) (Lk x)
 | neg {k : Nat} {x : D} {v : Option Bool} : KT Lk k x v → KT Lk (k + 1) (.tup [W "not", x]) (v.map (!·))
 | bin {k : Nat} (o : Bool) (xs : List D) (vs : List (Option Bool)) : xs.length = vs.length → xs.length ≤ 3 → (∀ (i : Nat) (x : D) (v : Option Bool), xs[i]? = some x → vs[i]? = some v → KT Lk k x v) → KT Lk (k + 1) (.tup [.str (oW o), .tup xs]) (cmb o vs)
theorem lk_key {ts0 ts : List D} {Z : Zs} (h : ts0 <+: ts) {d : D} (hd : At d) (hi : inTs ts d) : (∀ z ∈ Z, At z.1 ∧ inTs ts0 z.1) → lkz ts0 Z (keyAt ts d) = fz Z d := by
 unfold lkz fz
 induction Z with
 | nil => intro _; rfl
 | cons z r ih =>
  intro hz
  have ih := ih fun y hy => hz y (by simp [hy])
  obtain ⟨h1, h2⟩ := hz z (by simp)
  rw [List.find?_cons, List.find?_cons]
  by_cases q : z.1 = d
  · subst q
    simp [key_ext h h1 h2]
  · have : ¬ keyAt ts0 z.1 = keyAt ts d := fun e => q (key_inj h1 hd (inTs_ext h h1 h2) (by rw [key_ext h h1 h2]; exact e))
    simp only [decide_eq_false q, decide_eq_false this]
    exact ih
theorem Tl.set {ts : List D} {Z : Zs} {m : Nat} {s : Sto} (T : Tl s L ts Z m) {c : Nat} (hc : L + 6 ≤ c) (hz : ∀ z ∈ Z, z.2.1 ≠ c) (x : Cell) : Tl (s.set c x) L ts Z m := by
 have at' : ∀ {j : Nat} {y : Cell}, s[j]? = some y → c ≠ j → (s.set c x)[j]? = some y := fun {j y} e h1 => by rw [List.getElem?_set_ne h1]; exact e
 obtain ⟨l, hl, hm⟩ := T.t
 refine ⟨at' T.i (by omega), ⟨at' T.nb.i (by omega), at' T.nb.t (by omega), at' T.nb.d (by omega)⟩, T.gd, ⟨l, at' hl (by omega), hm⟩, at' T.d (by omega), fun z h => ?_, T.nd, T.na, T.zl⟩
 obtain ⟨h1, h2, h3, h4, h5⟩ := T.z z h
 exact ⟨h1, h2, h3, at' h4 (Ne.symm (hz z h)), h5⟩
theorem lay_not : PyData.canLay0 (.str (Str.ofString "not")) = true := by decide +kernel
theorem lay_key : PyData.canLay0 (.str (Str.ofString "key")) = true := by decide +kernel
theorem lay_or : PyData.canLay0 (.str (Str.ofString "or")) = true := by decide +kernel
theorem lay_and : PyData.canLay0 (.str (Str.ofString "and")) = true := by decide +kernel
theorem lay_oW (o : Bool) : PyData.canLay0 (.str (oW o)) = true := by cases o <;> decide +kernel
theorem aw_in {w : Str} (h : AW w) : decide (D.str w ∈ [D.str (Str.ofString "atmost"), .str (Str.ofString "below"), .str (Str.ofString "same")]) = true := by
 rcases h with rfl | rfl | rfl <;> simp
theorem not_in : decide (D.str (Str.ofString "not") ∈ [D.str (Str.ofString "atmost"), .str (Str.ofString "below"), .str (Str.ofString "same")]) = false := by decide +kernel
theorem oW_in (o : Bool) : decide (D.str (oW o) ∈ [D.str (Str.ofString "atmost"), .str (Str.ofString "below"), .str (Str.ofString "same")]) = false := by cases o <;> decide +kernel
theorem nn_eq : decide (W "not" = W "not") = true := by decide +kernel
theorem on_eq (o : Bool) : decide (D.str (oW o) = W "not") = false := by cases o <;> decide +kernel
theorem ok_aws : [D.str (Str.ofString "atmost"), .str (Str.ofString "below"), .str (Str.ofString "same")].all (okN 40) = true := by decide +kernel
theorem keyed_ok {Z : Zs} {ts0 : List D} {m : Nat} (hz0 : ∀ z ∈ Z, At z.1 ∧ inTs ts0 z.1) : ∀ (k : Nat) {d : D} {n : Nat} {st : Sto} {ts : List D}, Sn k d → Tl st L ts Z m → ts0 <+: ts → ts.length + 8 * 3 ^ k ≤ 14000000 →
    Wr (C FF (n + 6 + k) 17 [.loc L, d] st) fun r s => ∃ us, KT (lkz ts0 Z) k r (tv k (fz Z) d) ∧ ts <+: us ∧ us.length ≤ ts.length + 8 * 3 ^ k ∧ Tl s L us Z m ∧ FrX st.length (L + 2) (L + 3) st s := by
  have atom : ∀ (k n : Nat) {st : Sto} {ts : List D} {d : D}, At d → Tl st L ts Z m → ts0 <+: ts → ts.length + 8 * 3 ^ k ≤ 14000000 → Wr (C FF (n + 6) 17 [.loc L, d] st) fun r s => ∃ us, KT (lkz ts0 Z) k r (tv k (fz Z) d) ∧ ts <+: us ∧ us.length ≤ ts.length + 8 * 3 ^ k ∧ Tl s L us Z m ∧ FrX st.length (L + 2) (L + 3) st s := by
    intro k n st ts d hd T h0 hl
    have hk : 1 ≤ 3 ^ k := Nat.one_le_pow _ _ (by decide)
    rw [tv_at hd]
    have hd0 := hd
    cases hd0 with
    | mk w a b hw ha hb =>
      refine w_fn [some (.loc L), some (.tup [.str w, a, b]), none] (b := c_keyed) rfl rfl (by decide) rfl ?_
      unfold c_keyed
      refine ws_cons (ws_set (w_ix (w_var rfl (w_cst (r_ixT (d := .str w) rfl ⟨of_decide_eq_true rfl, k_next (ws_cons (ws_if (wt_cm (w_var rfl (w_cst (r_inT (okW (lay_aw hw)) ok_aws ⟨_, rfl, ?_⟩))))))⟩)))))
      rw [aw_in hw]
      refine wp_t (ws_cons (ws_ret (w_tup (w_cons (w_cst (w_cons (w_meth (w_var rfl ⟨L, _, rfl, T.i, fsT_no n_ko1 n_ko2 n_ko3, w_cons (w_var rfl (w_nil ((key_of (n := n) T hd (by omega)).imp ?_)))⟩))))))))
      rintro _ s1 ⟨us, rfl, hi, p1, l1, T1, F1⟩
      refine w_nil ⟨szl 2 (by decide), k_ret (k_ret (kf_ret ⟨us, ?_, p1, by omega, T1, F1⟩))⟩
      rw [← lk_key (h0.trans p1) hd hi hz0]
      exact .key (keyAt_ok hd)
  intro k
  induction k with
  | zero =>
    intro d n st ts hS T h0 hl
    cases hS with
    | atm h => exact atom 0 n h T h0 hl
  | succ k ih =>
    intro d n st ts hS T h0 hl
    have e3 : 3 ^ (k + 1) = 3 * 3 ^ k := by rw [Nat.pow_succ, Nat.mul_comm]
    cases hS with
    | atm h =>
      have := atom (k + 1) (n + (k + 1)) h T h0 hl
      rw [show n + (k + 1) + 6 = n + 6 + (k + 1) by omega] at this
      exact this
    | @neg _ s hs =>
      rw [tv_neg]
      refine w_fn [some (.loc L), some (.tup [W "not", s]), none] (b := c_keyed) rfl rfl (by decide) rfl ?_
      unfold c_keyed
      refine ws_cons (ws_set (w_ix (w_var rfl (w_cst (r_ixT (d := W "not") rfl ⟨of_decide_eq_true rfl, k_next (ws_cons (ws_if (wt_cm (w_var rfl (w_cst (r_inT (okW lay_not) ok_aws ⟨_, rfl, ?_⟩))))))⟩)))))
      rw [not_in]
      refine wp_f (ws_nil (k_next (ws_cons (ws_if (wt_cm (w_var rfl (w_cst (r_eqN (okW lay_not) (okW lay_not) ⟨_, rfl, ?_⟩))))))))
      rw [nn_eq]
      refine wp_t (ws_cons (ws_ret (w_tup (w_cons (w_cst (w_cons (w_call (w_cons (w_var rfl (w_cons (w_ix (w_var rfl (w_cst (r_ixT (d := s) rfl (w_nil ((ih (n := n) hs T h0 (by omega)).imp ?_))))))))))))))))
      rintro r s1 ⟨us, K, p1, l1, T1, F1⟩
      exact w_nil ⟨szl 2 (by decide), k_ret (k_ret (kf_ret ⟨us, .neg K, p1, by omega, T1, F1⟩))⟩
    | bin o ps hp hs =>
      rw [tv_bin]
      refine w_fn [some (.loc L), some (.tup [.str (oW o), .tup ps]), none] (b := c_keyed) rfl rfl (by decide) rfl ?_
      unfold c_keyed
      refine ws_cons (ws_set (w_ix (w_var rfl (w_cst (r_ixT (d := .str (oW o)) rfl ⟨of_decide_eq_true rfl, k_next (ws_cons (ws_if (wt_cm (w_var rfl (w_cst (r_inT (okW (lay_oW o)) ok_aws ⟨_, rfl, ?_⟩))))))⟩)))))
      rw [oW_in]
      refine wp_f (ws_nil (k_next (ws_cons (ws_if (wt_cm (w_var rfl (w_cst (r_eqN (okW (lay_oW o)) (okW lay_not) ⟨_, rfl, ?_⟩))))))))
      rw [on_eq]
      refine wp_f (ws_nil (k_next (ws_cons (ws_ret (w_tup (w_cons (w_var rfl (w_cons (w_bt (w_cons (w_compR ?_)))))))))))
      have hL := (List.getElem?_eq_some_iff.mp T.d).1
      have zlt : ∀ z ∈ Z, z.2.1 < st.length := fun z hz => (List.getElem?_eq_some_iff.mp (T.z z hz).2.2.2.1).1
      refine w_ix (w_var rfl (w_cst (r_ixT (d := .tup ps) rfl ⟨ps, none, fun i ys s' => ∃ us, Tl s' L us Z m ∧ ts <+: us ∧ us.length ≤ ts.length + i * (8 * 3 ^ k) ∧ ys.length = i ∧ (∀ (j : Nat) (x : D) (v : Option Bool), ys[j]? = some x → (ps.map (tv k (fz Z)))[j]? = some v → KT (lkz ts0 Z) k x v) ∧ FrX st.length (L + 2) (L + 3) st s', rfl, szl _ (by omega), fun _ _ _ _ => rfl, ?_, ?_, ?_⟩)))
      · exact ⟨ts, T.mono (.app _), List.prefix_refl _, by omega, rfl, fun j x v h => by simp at h, ⟨by simp, fun j hj _ _ => List.getElem?_append_left hj⟩⟩
      · rintro j d hd s1 ys ⟨us, T1, p1, l1, hy, hK, F1⟩ hn
        have hj := (List.getElem?_eq_some_iff.mp hd).1
        have hjm : j * (8 * 3 ^ k) ≤ 2 * (8 * 3 ^ k) := Nat.mul_le_mul_right _ (by omega)
        refine w_turnC (env' := [some d, some (.loc L)]) rfl (wi_nil (wp_t (w_call (w_cons (w_var rfl (w_cons (w_var rfl (w_nil ((ih (n := n) (hs d (List.mem_of_getElem? hd)) T1 (h0.trans p1) (by omega)).imp ?_)))))))))
        rintro r s2 ⟨vs, K, p2, l2, T2, F2⟩
        have hn1 := (List.getElem?_eq_some_iff.mp hn).1
        have hn2 : s2[st.length]? = some (.lst ys) := by rw [F2.2 st.length hn1 (by omega) (by omega)]; exact hn
        refine ⟨hn2, .inl ⟨r, rfl, vs, T2.set (by omega) (fun z hz => Nat.ne_of_lt (zlt z hz)) _, p1.trans p2, ?_, by simp [hy], fun i x v h1 h2 => ?_, ?_⟩⟩
        · rw [Nat.add_mul]; omega
        · by_cases hi : i < ys.length
          · rw [List.getElem?_append_left hi] at h1
            exact hK i x v h1 h2
          · have hi2 : i = ys.length := by
              have := (List.getElem?_eq_some_iff.mp h1).1
              simp at this; omega
            subst hi2
            have e1 : x = r := by simpa using h1.symm
            rw [hy, List.getElem?_map, hd] at h2
            cases h2
            rw [e1]; exact K
        · refine F1.trans ⟨by rw [List.length_set]; exact F2.1, fun i h1 h2 h3 => ?_⟩
          rw [List.getElem?_set_ne (by omega)]
          exact F2.2 i (by have := F1.1; omega) h2 h3
      · rintro s' ys ⟨us, T1, p1, l1, hy, hK, F1⟩ hn
        have hjm : ps.length * (8 * 3 ^ k) ≤ 3 * (8 * 3 ^ k) := Nat.mul_le_mul_right _ hp
        refine w_nil (r_tupleB (lst_at hn) (w_nil ⟨szl 2 (by decide), k_ret (kf_ret ⟨us, ?_, p1, by omega, T1, F1⟩)⟩))
        exact .bin o ys _ (by simp [hy]) (by omega) hK
end
section
variable {FF n k L : Nat} {st : Sto}
theorem py_T {st : Sto} {m : Nat} (v : Option Bool) : pyOf st m (encT v) = some (match v with | none => .none | some b => .bool b) := by
 rcases v with _ | b <;> cases m <;> rfl
theorem py_Ts {st : Sto} {m : Nat} : ∀ vs : List (Option Bool), optAll ((vs.map encT).map (pyOf st m)) = some (vs.map fun v => match v with | none => PyData.none | some b => .bool b)
 | [] => rfl
 | v :: r => by simp only [List.map_cons, py_T, optAll, py_Ts r, Option.map_some]
theorem eqv_T (v w : Option Bool) : PyData.eqv (match v with | none => PyData.none | some b => .bool b) (match w with | none => PyData.none | some b => .bool b) = decide (v = w) := by
 rcases v with _ | (_ | _) <;> rcases w with _ | (_ | _) <;> decide
theorem any_T (v : Option Bool) : ∀ vs : List (Option Bool), ((vs.map fun v => match v with | none => PyData.none | some b => .bool b).any fun y => PyData.eqv y (match v with | none => PyData.none | some b => .bool b)) = decide (v ∈ vs)
 | [] => rfl
 | w :: r => by
  rw [List.map_cons, List.any_cons, eqv_T, any_T v r]
  by_cases h : w = v
  · simp [h]
  · simp [h, Ne.symm h]
theorem r_inT3 {Q : D → Sto → Prop} {l : Nat} {v : Option Bool} {vs : List (Option Bool)} (h : lstOf st l = some (vs.map encT)) (q : Q (.bl (decide (v ∈ vs))) st) : Wr (cmD .inL (encT v) (.loc l) st) Q := by
 refine ⟨_, _, ?_, q⟩
 simp only [cmD, inD, (dct_lst h).1, (dct_lst h).2, inS, pyOf, h, Option.bind_some, py_T, py_Ts, Option.map_some, any_T]
theorem r_isB {Q : D → Sto → Prop} {d : D} {c : Bool} (h : Q (.bl (decide (d = .bl c))) st) : Wr (cmD .isN d (.bl c) st) Q := ⟨_, _, by simp only [cmD], h⟩
theorem look_k {ts : List D} {key : D} : ∀ {Z : Zs}, dLook (zKv ts Z) key = (Z.find? fun z => decide (keyAt ts z.1 = key)).map fun z => .loc z.2.1
 | [] => rfl
 | z :: r => by
  have ih := look_k (ts := ts) (key := key) (Z := r)
  unfold dLook zKv at ih ⊢
  rw [List.map_cons, List.find?_cons, List.find?_cons]
  by_cases q : keyAt ts z.1 = key
  · simp [q]
  · simp only [decide_eq_false q]
    exact ih
theorem truth_of {ts ts0 : List D} {Z : Zs} {m : Nat} {key : D} (T : Tl st L ts Z m) (hz0 : ∀ z ∈ Z, At z.1 ∧ inTs ts0 z.1) (h0 : ts0 <+: ts) (hk : keyN key = true) : Wr (C FF (n + 1) 12 [.loc L, key] st) fun r s => r = encT (lkz ts0 Z key) ∧ Fr st s := by
 refine w_fn [some (.loc L), some key, none] (b := c_Tellings_9truth_of) rfl rfl (by decide) rfl ?_
 unfold c_Tellings_9truth_of
 refine ws_cons (ws_set (w_mt (w_fld (w_var rfl ⟨L, _, _, rfl, T.i, fsT_s, rdy_dcn T.d, w_cons (w_var rfl (w_nil (r_gN1 T.d hk ⟨of_decide_eq_true rfl, k_next (ws_cons (ws_ret (w_ifE ?_)))⟩)))⟩))))
 rw [zKv_ext h0 hz0, look_k]
 unfold lkz
 cases hf : Z.find? (fun z => decide (keyAt ts0 z.1 = key)) with
 | none => exact wt_var (d := .non) rfl rfl (wp_f (w_cst (k_ret (kf_ret ⟨rfl, .refl _⟩))))
 | some z =>
  obtain ⟨_, _, _, h4, _⟩ := T.z z (List.mem_of_find?_eq_some hf)
  have hl := lst_at h4
  refine wt_var (d := .loc z.2.1) (b := true) rfl ?_ (wp_t (w_ix (w_var (d := .loc z.2.1) rfl (w_cst (r_ixL hl (d := .bl z.2.2.1) (by simp [L2.atI, L2.ixN]) (k_ret (kf_ret ⟨rfl, .refl _⟩)))))))
  simp only [truth, hl, Option.map_some]; rfl
theorem kk_eq : decide (W "key" = W "key") = true := by decide +kernel
theorem nk_eq : decide (W "not" = W "key") = false := by decide +kernel
theorem ok_eq (o : Bool) : decide (D.str (oW o) = W "key") = false := by cases o <;> decide +kernel
theorem oo_eq (o : Bool) : decide (D.str (oW o) = W "or") = o := by cases o <;> decide +kernel
theorem n_tr1 : (Str.ofString "truth_of" == Str.ofString "numbering") = false := by decide +kernel
theorem n_tr2 : (Str.ofString "truth_of" == Str.ofString "trail") = false := by decide +kernel
theorem n_tr3 : (Str.ofString "truth_of" == Str.ofString "signs") = false := by decide +kernel
theorem truth_by {ts ts0 : List D} {Z : Zs} {m : Nat} (hz0 : ∀ z ∈ Z, At z.1 ∧ inTs ts0 z.1) (h0 : ts0 <+: ts) : ∀ (k : Nat) {x : D} {v : Option Bool} {n : Nat} {st : Sto}, Tl st L ts Z m → KT (lkz ts0 Z) k x v →
    Wr (C FF (n + 2 + k) 18 [.loc L, x] st) fun r s => r = encT v ∧ Fr st s := by
  have key : ∀ {x : D} {n : Nat} {st : Sto}, Tl st L ts Z m → keyN x = true → Wr (C FF (n + 2) 18 [.loc L, .tup [W "key", x]] st) fun r s => r = encT (lkz ts0 Z x) ∧ Fr st s := by
    intro x n st T hx
    refine w_fn [some (.loc L), some (.tup [W "key", x]), none, none, none, none, none] (b := c_truth_by) rfl rfl (by decide) rfl ?_
    unfold c_truth_by
    refine ws_cons (ws_unp (w_var rfl ⟨_, rfl, k_next (ws_cons (ws_if (wt_cm (w_var rfl (w_cst (r_eqN (okW lay_key) (okW lay_key) ⟨_, rfl, ?_⟩))))))⟩))
    rw [kk_eq]
    refine wp_t (ws_cons (ws_ret (w_meth (w_var rfl ⟨L, _, rfl, T.i, fsT_no n_tr1 n_tr2 n_tr3, w_cons (w_var rfl (w_nil ((truth_of (n := n) T hz0 h0 hx).imp ?_)))⟩))))
    exact fun r s h => k_ret (k_ret (kf_ret h))
  intro k
  induction k with
  | zero =>
    intro x v n st T K
    cases K with
    | key hx => exact key (n := n) T hx
  | succ k ih =>
    intro x v n st T K
    cases K with
    | @key _ y hx =>
      have := key (n := n + (k + 1)) T hx
      rw [show n + (k + 1) + 2 = n + 2 + (k + 1) by omega] at this
      exact this
    | @neg _ y u K =>
      refine w_fn [some (.loc L), some (.tup [W "not", y]), none, none, none, none, none] (b := c_truth_by) rfl rfl (by decide) rfl ?_
      unfold c_truth_by
      refine ws_cons (ws_unp (w_var rfl ⟨_, rfl, k_next (ws_cons (ws_if (wt_cm (w_var rfl (w_cst (r_eqN (okW lay_not) (okW lay_key) ⟨_, rfl, ?_⟩))))))⟩))
      rw [nk_eq]
      refine wp_f (ws_nil (k_next (ws_cons (ws_if (wt_cm (w_var rfl (w_cst (r_eqN (okW lay_not) (okW lay_not) ⟨_, rfl, ?_⟩))))))))
      rw [nn_eq]
      refine wp_t (ws_cons (ws_set (w_call (w_cons (w_var rfl (w_cons (w_var rfl (w_nil ((ih (n := n) T K).imp ?_)))))))))
      rintro _ s1 ⟨rfl, F1⟩
      refine ⟨of_decide_eq_true rfl, k_next (ws_cons (ws_ret (w_ifE (wt_cm (w_var rfl (w_cst (r_isN ⟨_, rfl, ?_⟩)))))))⟩
      rcases u with _ | b
      · exact wp_t (w_cst (k_ret (k_ret (kf_ret ⟨rfl, F1⟩))))
      · exact wp_f (w_not (w_var rfl ⟨b, rfl, k_ret (k_ret (kf_ret ⟨rfl, F1⟩))⟩))
    | bin o xs vs hl h3 hK =>
      refine w_fn [some (.loc L), some (.tup [.str (oW o), .tup xs]), none, none, none, none, none] (b := c_truth_by) rfl rfl (by decide) rfl ?_
      unfold c_truth_by
      refine ws_cons (ws_unp (w_var rfl ⟨_, rfl, k_next (ws_cons (ws_if (wt_cm (w_var rfl (w_cst (r_eqN (okW (lay_oW o)) (okW lay_key) ⟨_, rfl, ?_⟩))))))⟩))
      rw [ok_eq]
      refine wp_f (ws_nil (k_next (ws_cons (ws_if (wt_cm (w_var rfl (w_cst (r_eqN (okW (lay_oW o)) (okW lay_not) ⟨_, rfl, ?_⟩))))))))
      rw [on_eq]
      refine wp_f (ws_nil (k_next (ws_cons (ws_set (w_compR (w_var rfl ⟨xs, none, fun i ys s' => ys = (vs.take i).map encT ∧ Fr st s', rfl, szl _ (by omega), fun _ _ _ _ => rfl, ⟨by simp, .app _⟩, ?_, ?_⟩))))))
      · rintro j d hd s1 ys ⟨rfl, F1⟩ hn
        have hj := (List.getElem?_eq_some_iff.mp hd).1
        obtain ⟨u, hu⟩ : ∃ u, vs[j]? = some u := ⟨_, List.getElem?_eq_getElem (by omega)⟩
        refine w_turnC (env' := [some d, some (.loc L)]) rfl (wi_nil (wp_t (w_call (w_cons (w_var rfl (w_cons (w_var rfl (w_nil ((ih (n := n) (T.mono F1) (hK j d u hd hu)).imp ?_)))))))))
        rintro _ s2 ⟨rfl, F2⟩
        refine ⟨F2.at hn, .inl ⟨_, rfl, ?_, (F1.trans F2).set (Nat.le_refl _) _⟩⟩
        rw [List.take_add_one, hu]; simp
      · rintro s' ys ⟨rfl, F1⟩ hn
        rw [hl, List.take_length] at hn
        refine ⟨of_decide_eq_true rfl, k_next (ws_cons (ws_set (w_cm (w_var rfl (w_cst (r_eqN (okW (lay_oW o)) (okW lay_or) ⟨of_decide_eq_true rfl, ?_⟩))))))⟩
        rw [oo_eq]
        refine k_next (ws_cons (ws_if (wt_cm (w_var rfl (w_var rfl (r_inT3 (v := some o) (lst_at hn) ⟨_, rfl, ?_⟩))))))
        by_cases q1 : some o ∈ vs
        · rw [decide_eq_true q1]
          refine wp_t (ws_cons (ws_ret (w_var rfl (k_ret (k_ret (kf_ret ⟨?_, F1⟩))))))
          simp only [cmb, if_pos q1, encT]
        · rw [decide_eq_false q1]
          refine wp_f (ws_nil (k_next (ws_cons (ws_ret (w_ifE (wt_cm (w_cst (w_var rfl (r_inT3 (v := none) (lst_at hn) ⟨_, rfl, ?_⟩)))))))))
          by_cases q2 : none ∈ vs
          · rw [decide_eq_true q2]
            refine wp_t (w_cst (k_ret (kf_ret ⟨?_, F1⟩)))
            simp only [cmb, if_neg q1, if_pos q2, encT]
          · rw [decide_eq_false q2]
            refine wp_f (w_not (w_var rfl ⟨o, rfl, k_ret (kf_ret ⟨?_, F1⟩)⟩))
            simp only [cmb, if_neg q1, if_neg q2, encT]
theorem enc_ff (v : Option Bool) : decide (encT v = .bl false) = decide (v = some false) := by rcases v with _ | (_ | _) <;> rfl
theorem is_false {P : List (D × Bool)} {d : D} {k : Nat} (hP : ∀ p ∈ P, At p.1) (hl : P.length ≤ 100) (hd : Sn k d) (hk : k ≤ 6) : Wr (C FF (n + 7 + k + 1) 19 [d, .tup (P.map encS)] st) fun r s => r = .bl (decide (tv k (fP P) d = some false)) ∧ Fr st s := by
 refine w_fn [some d, some (.tup (P.map encS)), none] (b := c_is_false) rfl rfl (by decide) rfl ?_
 unfold c_is_false
 have h3 : 3 ^ k ≤ 3 ^ 6 := Nat.pow_le_pow_right (by decide) hk
 have h36 : 3 ^ 6 = 729 := by decide
 have a1 := tellings_of (FF := FF) (n := n + k) (st := st) hP hl
 rw [show n + k + 7 = n + 7 + k by omega] at a1
 refine ws_cons (ws_set (w_call (w_cons (w_var rfl (w_nil (a1.imp ?_))))))
 rintro _ s1 ⟨rfl, ts, Z, T, hts, hf, F⟩
 have hz0 : ∀ z ∈ Z, At z.1 ∧ inTs ts z.1 := fun z hz => ⟨(T.z z hz).1, (T.z z hz).2.1⟩
 have a2 := keyed_ok (FF := FF) (L := st.length) (n := n + 1) hz0 k hd T (List.prefix_refl _) (by omega)
 rw [show n + 1 + 6 + k = n + 7 + k by omega] at a2
 refine ⟨of_decide_eq_true rfl, k_next (ws_cons (ws_ret (w_cm (w_call (w_cons (w_var rfl (w_cons (w_call (w_cons (w_var rfl (w_cons (w_var rfl (w_nil (a2.imp ?_))))))))))))))⟩
 rintro r s2 ⟨us, K, p1, l1, T2, F2⟩
 have a3 := truth_by (FF := FF) (L := st.length) (n := n + 5) hz0 p1 k T2 K
 rw [show n + 5 + 2 + k = n + 7 + k by omega] at a3
 refine w_nil (a3.imp ?_)
 rintro _ s3 ⟨rfl, F3⟩
 refine w_cst (r_isB (k_ret (kf_ret ⟨?_, ?_⟩)))
 · rw [enc_ff, hf]
 · have hL := (List.getElem?_eq_some_iff.mp T.i).1
   have q := F.trans (FrL.of (Nat.le_of_lt hL) F2)
   refine Fr.trans (fun j hj => q.2 j hj) F3
end
section
variable {FF n k : Nat} {st : Sto}
theorem ints_map : ∀ l : List Int, intsOf (l.map D.int) = some l
 | [] => rfl
 | i :: r => by simp only [List.map_cons, intsOf, ints_map r, Option.map_some]
theorem fm_some {f : D → D} : ∀ l : List D, l.filterMap (fun x => some (f x)) = l.map f
 | [] => rfl
 | x :: r => by simp [fm_some r]
theorem r_minL {Q : D → Sto → Prop} {l : Nat} {i : Int} {is : List Int} (h : lstOf st l = some ((i :: is).map D.int)) (q : Q (.int (minL (i :: is))) st) : Wr (btD .minLB [.loc l] st) Q := ⟨_, _, by simp only [btD, h, Option.bind_some, ints_map], q⟩
theorem r_maxL {Q : D → Sto → Prop} {l : Nat} {i : Int} {is : List Int} (h : lstOf st l = some ((i :: is).map D.int)) (q : Q (.int (maxOr 0 (i :: is))) st) : Wr (btD .maxLB [.loc l] st) Q := ⟨_, _, by simp only [btD, h, Option.bind_some, ints_map], q⟩
theorem r_popI {Q : D → Sto → Prop} {l : Nat} {y : D} {r : List D} (h : st[l]? = some (.lst (y :: r))) (q : Q y (st.set l (.lst r))) : Wr (mtD .popI (.loc l) [.int 0] st) Q := ⟨_, _, by simp only [mtD, h, if_true], q⟩
theorem aw_not {w : Str} (h : AW w) : decide (D.str w = W "not") = false := by rcases h with rfl | rfl | rfl <;> decide +kernel
theorem aw_and {w : Str} (h : AW w) : decide (D.str w = W "and") = false := by rcases h with rfl | rfl | rfl <;> decide +kernel
theorem aw_or {w : Str} (h : AW w) : decide (D.str w = W "or") = false := by rcases h with rfl | rfl | rfl <;> decide +kernel
theorem o_and : decide (D.str (oW false) = W "and") = true := by decide +kernel
theorem o_and' : decide (D.str (oW true) = W "and") = false := by decide +kernel
theorem o_or : decide (D.str (oW true) = W "or") = true := by decide +kernel
theorem value_ok {q : Nat} {K : List (D × D)} {f : D → Option Bool} (hK : ∀ d, At d → dLook K d = (f d).map fun b => .int (iv (some b))) : ∀ (k : Nat) {d : D} {n : Nat} {st : Sto}, Sn k d → st[q]? = some (.dcn K) →
    Wr (C FF (n + 1 + k) 31 [d, .loc q] st) fun r s => r = .int (iv (tv k f d)) ∧ Fr st s := by
  have atom : ∀ (k n : Nat) {st : Sto} {d : D}, At d → st[q]? = some (.dcn K) → Wr (C FF (n + 1) 31 [d, .loc q] st) fun r s => r = .int (iv (tv k f d)) ∧ Fr st s := by
    intro k n st d hd hq
    rw [tv_at hd]
    have hd0 := hd
    cases hd0 with
    | mk w a b hw ha hb =>
      refine w_fn [some (.tup [.str w, a, b]), some (.loc q)] (b := c__law_value) rfl rfl (by decide) rfl ?_
      unfold c__law_value
      refine ws_cons (ws_if (wt_cm (w_ix (w_var rfl (w_cst (r_ixT (d := .str w) rfl (w_cst (r_eqN (okW (lay_aw hw)) (okW lay_not) ⟨_, rfl, ?_⟩))))))))
      rw [aw_not hw]
      refine wp_f (ws_nil (k_next (ws_cons (ws_if (wt_cm (w_ix (w_var rfl (w_cst (r_ixT (d := .str w) rfl (w_cst (r_eqN (okW (lay_aw hw)) (okW lay_and) ⟨_, rfl, ?_⟩)))))))))))
      rw [aw_and hw]
      refine wp_f (ws_nil (k_next (ws_cons (ws_if (wt_cm (w_ix (w_var rfl (w_cst (r_ixT (d := .str w) rfl (w_cst (r_eqN (okW (lay_aw hw)) (okW lay_or) ⟨_, rfl, ?_⟩)))))))))))
      rw [aw_or hw]
      refine wp_f (ws_nil (k_next (ws_cons (ws_ret (w_mt (w_var rfl ⟨rdy_dcn hq, w_cons (w_var rfl (w_cons (w_cst (w_nil (r_gN2 hq hd.keyN (k_ret (kf_ret ⟨?_, .refl _⟩)))))))⟩))))))
      rw [hK _ hd]
      rcases f (.tup [.str w, a, b]) with _ | b <;> rfl
  intro k
  induction k with
  | zero =>
    intro d n st hS hq
    cases hS with
    | atm h => exact atom 0 n h hq
  | succ k ih =>
    intro d n st hS hq
    cases hS with
    | atm h =>
      have := atom (k + 1) (n + (k + 1)) h hq
      rw [show n + (k + 1) + 1 = n + 1 + (k + 1) by omega] at this
      exact this
    | @neg _ s hs =>
      rw [tv_neg]
      refine w_fn [some (.tup [W "not", s]), some (.loc q)] (b := c__law_value) rfl rfl (by decide) rfl ?_
      unfold c__law_value
      refine ws_cons (ws_if (wt_cm (w_ix (w_var rfl (w_cst (r_ixT (d := W "not") rfl (w_cst (r_eqN (okW lay_not) (okW lay_not) ⟨_, rfl, ?_⟩))))))))
      rw [nn_eq]
      refine wp_t (ws_cons (ws_ret (w_op (w_cst (w_call (w_cons (w_ix (w_var rfl (w_cst (r_ixT (d := s) rfl (w_cons (w_var rfl (w_nil ((ih (n := n) hs hq).imp ?_))))))))))))))
      rintro _ s1 ⟨rfl, F1⟩
      refine r_sub (k_ret (k_ret (kf_ret ⟨?_, F1⟩)))
      rw [iv_neg]
    | bin o ps hp hs =>
      rw [tv_bin]
      have cmp : ∀ {s0 : Sto} {Q : D → Sto → Prop}, s0[q]? = some (.dcn K) → (∀ s', Fr s0 s' → s'[s0.length]? = some (.lst ((ps.map fun p => iv (tv k f p)).map D.int)) → Q (.loc s0.length) s') → Wr (evalE tab (C FF (n + 1 + k)) (.comp 1 true 1 [0] [1] (.ix (.var 0) (.cst (.int 1))) .nil (.call 31 (.cons (.var 0) (.cons (.var 1) .nil)) [])) [some (.tup [.str (oW o), .tup ps]), some (.loc q)] s0) Q := by
        intro s0 Q hq hQ
        refine w_comp (w_ix (w_var rfl (w_cst (r_ixT (d := .tup ps) rfl ⟨ps, none, fun p => some (.int (iv (tv k f p))), rfl, szl _ (by omega), fun _ _ => rfl, fun d hd s' F' => ?_, fun s' F' h => hQ s' F' (by rw [h, fm_some, List.map_map]; rfl)⟩))))
        refine w_turnC (env' := [some d, some (.loc q)]) rfl (wi_nil (wp_t (w_call (w_cons (w_var rfl (w_cons (w_var rfl (w_nil ((ih (n := n) (hs d hd) (F'.at hq)).imp ?_)))))))))
        rintro _ s1 ⟨rfl, F1⟩
        exact ⟨rfl, F1⟩
      have em : (ps.map fun p => iv (tv k f p)) = (ps.map (tv k f)).map iv := by rw [List.map_map]; rfl
      refine w_fn [some (.tup [.str (oW o), .tup ps]), some (.loc q)] (b := c__law_value) rfl rfl (by decide) rfl ?_
      unfold c__law_value
      refine ws_cons (ws_if (wt_cm (w_ix (w_var rfl (w_cst (r_ixT (d := .str (oW o)) rfl (w_cst (r_eqN (okW (lay_oW o)) (okW lay_not) ⟨_, rfl, ?_⟩))))))))
      rw [on_eq]
      refine wp_f (ws_nil (k_next (ws_cons (ws_if (wt_cm (w_ix (w_var rfl (w_cst (r_ixT (d := .str (oW o)) rfl (w_cst (r_eqN (okW (lay_oW o)) (okW lay_and) ⟨_, rfl, ?_⟩)))))))))))
      cases o with
      | false =>
        rw [o_and]
        refine wp_t (ws_cons (ws_ret (w_bt (w_cons (w_op (w_lst (w_cons (w_cst (w_nil ⟨szl 1 (by decide), cmp ((Fr.app _).at hq) fun s1 F1 h1 => r_addL (F1.at (gg0.trans rfl)) h1 (szl _ (by simp; omega)) (w_nil (r_minL (i := 2) (is := (ps.map (tv k f)).map iv) (lst_at ?_) (k_ret (k_ret (kf_ret ⟨?_, (Fr.app _).trans (F1.trans (.app _))⟩)))))⟩)))))))))
        · rw [em]; exact gg0.trans rfl
        · rw [min_cmb]
      | true =>
        rw [o_and']
        refine wp_f (ws_nil (k_next (ws_cons (ws_if (wt_cm (w_ix (w_var rfl (w_cst (r_ixT (d := .str (oW true)) rfl (w_cst (r_eqN (okW (lay_oW true)) (okW lay_or) ⟨_, rfl, ?_⟩)))))))))))
        rw [o_or]
        refine wp_t (ws_cons (ws_ret (w_bt (w_cons (w_op (w_lst (w_cons (w_cst (w_nil ⟨szl 1 (by decide), cmp ((Fr.app _).at hq) fun s1 F1 h1 => r_addL (F1.at (gg0.trans rfl)) h1 (szl _ (by simp; omega)) (w_nil (r_maxL (i := 0) (is := (ps.map (tv k f)).map iv) (lst_at ?_) (k_ret (k_ret (kf_ret ⟨?_, (Fr.app _).trans (F1.trans (.app _))⟩)))))⟩)))))))))
        · rw [em]; exact gg0.trans rfl
        · rw [max_cmb]
end
section
variable {FF n k : Nat} {st : Sto}
theorem fm {i j : Int} (h : 0 < j) : 0 ≤ i.fmod j ∧ i.fmod j < j := ⟨Int.fmod_nonneg_of_pos i h, Int.fmod_lt_of_pos i h⟩
theorem atI_get {xs : List D} {i : Nat} {d : D} (h : xs[i]? = some d) : L2.atI xs (i : Nat) = some d := by
 obtain ⟨hl, he⟩ := List.getElem?_eq_some_iff.mp h
 simp [L2.atI, L2.ixN, hl, he]
theorem atI_lt {xs : List D} {r : Nat} (h : r < xs.length) : ∃ d ∈ xs, L2.atI xs (r : Nat) = some d := ⟨xs[r], List.getElem_mem h, atI_get (by simp [h])⟩
def FrO (x : Nat) (s s' : Sto) : Prop := s.length ≤ s'.length ∧ ∀ j, j < s.length → j ≠ x → s'[j]? = s[j]?
theorem FrO.trans {x : Nat} {a b c : Sto} (h : FrO x a b) (k : FrO x b c) : FrO x a c := ⟨Nat.le_trans h.1 k.1, fun j h1 h2 => (k.2 j (Nat.lt_of_lt_of_le h1 h.1) h2).trans (h.2 j h1 h2)⟩
theorem FrO.at {x : Nat} {s s' : Sto} (h : FrO x s s') {j : Nat} {c : Cell} (e : s[j]? = some c) (hj : j ≠ x) : s'[j]? = some c := (h.2 j (List.getElem?_eq_some_iff.mp e).1 hj).trans e
theorem FrO.of {x : Nat} {s s' : Sto} (h : Fr s s') : FrO x s s' := ⟨h.len, fun j hj _ => h j hj⟩
theorem FrO.fr {x : Nat} {a b c : Sto} (F : Fr a b) (h : FrO x b c) (hx : a.length ≤ x) : Fr a c := fun j hj => (h.2 j (Nat.lt_of_lt_of_le hj F.len) (by omega)).trans (F j hj)
def Is (s : Sto) (x : Nat) : Prop := ∃ is : List Int, s[x]? = some (.lst (is.map D.int))
theorem Is.mono {x : Nat} {s s' : Sto} (h : Is s x) (F : Fr s s') : Is s' x := let ⟨is, e⟩ := h; ⟨is, F.at e⟩
theorem ok_ints (is : List Int) : (is.map D.int).all (okN 39) = true := by simp [okN]
theorem taken {x m : Nat} (hx : Is st x) (hm : 0 < m) : Wr (C FF (n + 1) 22 [.loc x, .int (m : Nat)] st) fun d s => ∃ r : Nat, d = .int (r : Nat) ∧ r < m ∧ Is s x ∧ FrO x st s := by
 obtain ⟨is, hx⟩ := hx
 refine w_fn [some (.loc x), some (.int (m : Nat))] (b := c__law_taken) rfl rfl (by decide) rfl ?_
 unfold c__law_taken
 have F0 : Fr st (st ++ [Cell.lst []]) := .app _
 have hx0 := F0.at hx
 refine ws_cons (ws_if (wt_cm (w_var rfl (w_lst (w_nil ⟨szl 0 (by decide), r_eqL (ys := []) (lst_at hx0) (lst_at (gg0.trans rfl)) (ok_ints is) rfl ⟨_, rfl, ?_⟩⟩)))))
 cases is with
 | nil => exact wp_t (ws_cons (ws_ret (w_cst (k_ret (k_ret (kf_ret ⟨0, rfl, hm, ⟨[], hx0⟩, .of F0⟩))))))
 | cons i r =>
  refine wp_f (ws_nil (k_next (ws_cons (ws_ret (w_op (w_mt (w_var rfl ⟨rdy_lst hx0, w_cons (w_cst (w_nil (r_popI (y := .int i) (r := r.map D.int) hx0 (w_var rfl (r_mod (by omega) (k_ret (kf_ret ?_)))))))⟩)))))))
  have := fm (i := i) (j := (m : Nat)) (by omega)
  refine ⟨(i.fmod (m : Nat)).toNat, by rw [Int.toNat_of_nonneg this.1], by omega, ⟨r, set_at hx0 _⟩, ?_⟩
  exact (FrO.of F0).trans ⟨by simp, fun j _ hj => by rw [List.getElem?_set_ne (Ne.symm hj)]⟩
theorem draws {c : Int} {M : Nat} (hM : M ≤ 100) (hF : 101 < FF) : Wr (C FF (n + 1) 21 [.int c, .int (M : Nat)] st) fun d s => d = .loc st.length ∧ Fr st s ∧ Is s st.length := by
  refine w_fn [some (.int c), some (.int (M : Nat)), none, none, none] (b := c__law_draws) rfl rfl (by decide) rfl ?_
  unfold c__law_draws
  have rest : ∀ (s : Sto) (is : List Int) (left : Int), is.length ≤ M → Fr st s → s[st.length]? = some (.lst (is.map D.int)) →
      Wr (execSs tab (C FF n) FF (.cons (.set 4 (.op .mod (.op .add (.var 0) (.cst (.int 48271))) (.cst (.int 2147483647)))) (.cons (.whileS (.cm .lt (.bt .lenB (.cons (.var 2) .nil)) (.var 1)) (.cons (.set 4 (.op .mod (.op .mul (.var 4) (.cst (.int 48271))) (.cst (.int 2147483647)))) (.cons (.ex (.mt .append (.var 2) (.cons (.op .mod (.op .mul (.var 4) (.op .add (.op .fdiv (.var 4) (.cst (.int 1009))) (.cst (.int 69621)))) (.cst (.int 2147483629))) .nil))) .nil))) (.cons (.ret (.var 2)) .nil))) [some (.int c), some (.int (M : Nat)), some (.loc st.length), some (.int left), none] s) (Kf fun d s => d = .loc st.length ∧ Fr st s ∧ Is s st.length) := by
    intro s is left hl F hq
    repeat infer_instance
    have h0 := fm (i := c + 48271) (j := 2147483647) (by decide)
    generalize (c + 48271).fmod 2147483647 = nb0 at *
    refine ws_while (fun m env s => ∃ (is : List Int) (nb : Int), is.length + m = M ∧ 0 ≤ nb ∧ nb < 2147483647 ∧ env = [some (.int c), some (.int (M : Nat)), some (.loc st.length), some (.int left), some (.int nb)] ∧ Fr st s ∧ s[st.length]? = some (.lst (is.map D.int))) (M - is.length) (by omega) ⟨is, nb0, by omega, h0.1, h0.2, rfl, F, hq⟩ ?_
    rintro m env s ⟨is, nb, hm, n1, n2, rfl, F, hq⟩
    refine wt_cm (w_bt (w_cons (w_var rfl (w_nil (r_lenL (lst_at hq) (w_var rfl (r_lt ⟨_, rfl, fun g3 => ?_, fun g3 => ?_⟩)))))))
    · have g3 := of_decide_eq_true g3
      rw [List.length_map] at g3
      repeat infer_instance
      have h1 := fm (i := nb * 48271) (j := 2147483647) (by decide)
      generalize (nb * 48271).fmod 2147483647 = nb1 at *
      refine ⟨rdy_lst hq, ?_⟩
      repeat infer_instance
      refine r_mulL ⟨by omega, by omega⟩ ?_
      repeat infer_instance
      refine r_append hq (Nat.lt_of_lt_of_le (by simp; omega : (is.map D.int).length < 16000000) (by decide)) ?_
      repeat infer_instance
      refine ⟨_, m - 1, rfl, by omega, is ++ [(nb1 * (nb1.fdiv 1009 + 69621)).fmod 2147483629], nb1, by simp; omega, h1.1, h1.2, rfl, F.set (Nat.le_refl _) _, ?_⟩
      rw [set_at hq]; simp
    · repeat infer_instance
      exact ⟨rfl, F, is, hq⟩
  refine ws_cons (ws_set (w_lst (w_nil ⟨szl 0 (by decide), of_decide_eq_true rfl, k_next (ws_cons (ws_set (w_op (w_var rfl (w_cst (r_fdiv (by decide) ⟨of_decide_eq_true rfl, k_next (ws_cons (ws_if (wt_cm (w_op (w_var rfl (w_cst (r_mod (by decide) (w_cst (r_eqi ⟨_, rfl, fun g => ?_, fun g => ?_⟩)))))))))⟩))))))⟩)))
  · refine ws_cons (ws_while (fun m env s => ∃ (is : List Int) (left : Int), is.length + m = M ∧ env = [some (.int c), some (.int (M : Nat)), some (.loc st.length), some (.int left), none] ∧ Fr st s ∧ s[st.length]? = some (.lst (is.map D.int))) M (by omega) ⟨[], _, by simp, rfl, .app _, gg0.trans rfl⟩ ?_)
    rintro m env s ⟨is, left, hm, rfl, F, hq⟩
    refine wt_and (wt_cm (w_var rfl (w_cst (r_gt ⟨_, rfl, fun g2 => ?_, fun g2 => ?_⟩))))
    · refine wt_cm (w_bt (w_cons (w_var rfl (w_nil (r_lenL (lst_at hq) (w_var rfl (r_lt ⟨_, rfl, fun g3 => ?_, fun g3 => ?_⟩)))))))
      · have g3 := of_decide_eq_true g3
        rw [List.length_map] at g3
        repeat infer_instance
        refine ⟨rdy_lst hq, ?_⟩
        repeat infer_instance
        refine r_append hq (Nat.lt_of_lt_of_le (by simp; omega : (is.map D.int).length < 16000000) (by decide)) ?_
        repeat infer_instance
        refine ⟨_, m - 1, rfl, by omega, is ++ [left.fmod (10 ^ 6)], _, by simp; omega, rfl, F.set (Nat.le_refl _) _, ?_⟩
        rw [set_at hq]; simp
      · exact k_next (ws_nil (k_next (rest s is left (by omega) F hq)))
    · exact wp_f (k_next (ws_nil (k_next (rest s is left (by omega) F hq))))
  · exact ws_nil (k_next (rest _ [] _ (by simp) (.app _) (gg0.trans rfl)))
theorem fraction {x : Nat} (hx : Is st x) : Wr (C FF (n + 2) 25 [.loc x] st) fun d s => ∃ i j : Int, d = .tup [.int i, .int j] ∧ Is s x ∧ FrO x st s := by
 refine w_fn [some (.loc x), none, none, none] (b := c__law_fraction) rfl rfl (by decide) rfl ?_
 unfold c__law_fraction
 refine ws_cons (ws_set (w_op (w_call (w_cons (w_var rfl (w_cons (w_cst (w_nil ((taken (n := n) (m := 13) hx (by decide)).imp ?_)))))))))
 rintro _ s1 ⟨r1, rfl, _, I1, F1⟩
 refine w_cst (r_sub ⟨of_decide_eq_true rfl, k_next (ws_cons (ws_set (w_op (w_cst (w_call (w_cons (w_var rfl (w_cons (w_cst (w_nil ((taken (n := n) (m := 3) I1 (by decide)).imp ?_)))))))))))⟩)
 rintro _ s2 ⟨r2, rfl, _, I2, F2⟩
 refine r_add ⟨of_decide_eq_true rfl, k_next (ws_cons (ws_for (w_tup (w_cons (w_cst (w_cons (w_cst (w_nil ⟨szl 2 (by decide), [.int 2, .int 3], none, rfl, ?_⟩))))))))⟩
 refine w_loop (fun _ env s => s = s2 ∧ ∃ (i j : Int) (a : Option D), env = [some (.loc x), some (.int i), some (.int j), a]) (fun _ _ _ _ => rfl) ⟨rfl, _, _, _, rfl⟩ ?_ ?_
 · rintro j d hd env s ⟨rfl, i, b, a, rfl⟩
   have : ∃ by' : Int, d = .int by' ∧ by' ≠ 0 ∧ divOk by' := by
    match j, hd with
    | 0, hd => cases hd; exact ⟨2, rfl, by decide, by decide⟩
    | 1, hd => cases hd; exact ⟨3, rfl, by decide, by decide⟩
    | j + 2, hd => simp at hd
   obtain ⟨y, rfl, hy, hdv⟩ := this
   refine w_turn (env' := [some (.loc x), some (.int i), some (.int b), some (.int y)]) rfl ?_
   refine ws_cons (ws_if (wt_and (wt_cm (w_op (w_var rfl (w_var rfl (r_mod hy (w_cst (r_eqi ⟨_, rfl, fun g => ?_, fun g => ?_⟩)))))))))
   · refine wt_cm (w_op (w_var rfl (w_var rfl (r_mod hy (w_cst (r_eqi ⟨_, rfl, fun g2 => ?_, fun g2 => ?_⟩))))))
     · refine ws_cons (ws_set (w_op (w_var rfl (w_var rfl (r_fdiv hdv ⟨of_decide_eq_true rfl, k_next (ws_cons (ws_set (w_op (w_var rfl (w_var rfl (r_fdiv hdv ⟨of_decide_eq_true rfl, ?_⟩))))))⟩)))))
       exact k_next (ws_nil (k_next (ws_nil ⟨_, rfl, rfl, _, _, _, rfl⟩)))
     · exact ws_nil (k_next (ws_nil ⟨_, rfl, rfl, _, _, _, rfl⟩))
   · exact wp_f (ws_nil (k_next (ws_nil ⟨_, rfl, rfl, _, _, _, rfl⟩)))
 · rintro env s ⟨rfl, i, j, a, rfl⟩
   exact k_next (ws_cons (ws_ret (w_tup (w_cons (w_var rfl (w_cons (w_var rfl (w_nil ⟨szl 2 (by decide), k_ret (kf_ret ⟨i, j, rfl, I2, F1.trans F2⟩)⟩))))))))
end
section
variable {FF n k : Nat} {st : Sto}
theorem cell_at {x : Nat} {ns : List Int} {j : Nat} (hx : lstOf st x = some (ns.map D.int)) : Wr (C FF (n + 1) 20 [.loc x, .int (j : Nat)] st) fun d s => s = st ∧ ∃ i, d = .int i := by
 refine w_fn [some (.loc x), some (.int (j : Nat))] (b := c__law_cell_at) rfl rfl (by decide) rfl ?_
 unfold c__law_cell_at
 repeat infer_instance
 refine r_lenL hx ?_
 repeat infer_instance
 refine ⟨_, rfl, fun g => ?_, fun g => ?_⟩
 · have g := of_decide_eq_true g
   have hj : j < ns.length := by rw [List.length_map] at g; omega
   repeat infer_instance
   refine r_ixL hx (d := .int ns[j]) (atI_get (by simp [hj])) ?_
   repeat infer_instance
   exact ⟨rfl, _, rfl⟩
 · repeat infer_instance
   exact ⟨rfl, _, rfl⟩
def Ns (s : Sto) (y : Nat) : Prop := ∃ ns : List Str, s[y]? = some (.lst (ns.map D.str)) ∧ ns.length = 11 ∧ ∀ x ∈ ns, PyData.canLay0 (.str x) = true
theorem Ns.mono {y : Nat} {s s' : Sto} (h : Ns s y) (F : Fr s s') : Ns s' y := let ⟨ns, e, q⟩ := h; ⟨ns, F.at e, q⟩
theorem Ns.mono' {x y : Nat} {s s' : Sto} (h : Ns s y) (F : FrO x s s') (hy : y ≠ x) : Ns s' y := let ⟨ns, e, q⟩ := h; ⟨ns, F.at e hy, q⟩
theorem Ns.get {y : Nat} {s : Sto} (h : Ns s y) {r : Nat} (hr : r < 11) : ∃ xs x, lstOf s y = some xs ∧ L2.atI xs (r : Nat) = some (.str x) ∧ PyData.canLay0 (.str x) = true := by
 obtain ⟨ns, e, hl, hc⟩ := h
 exact ⟨_, ns[r]'(by omega), lst_at e, atI_get (by simp [show r < ns.length by omega]), hc _ (List.getElem_mem _)⟩
noncomputable def letters : List Str := (Str.ofString "xykoabfghmn").cps.toList.map fun c => ⟨#[c]⟩
noncomputable def ends : List Str := [Str.ofString "", Str.ofString "q", Str.ofString "zz"]
theorem spell : (ends.all fun e => (letters.all fun x => PyData.canLay0 (.str (x ++ e)) && decide (x.length + e.length ≤ 10))) = true ∧ letters.length = 11 ∧ (Str.ofString "xykoabfghmn").length ≤ 100 := by decide +kernel
theorem fm_str {e : Str} : ∀ l : List Str, (l.map D.str).filterMap (fun d => match d with | .str x => some (.str (x ++ e)) | _ => none) = (l.map fun x => x ++ e).map D.str
 | [] => rfl
 | a :: r => by simp only [List.map_cons, List.filterMap_cons, fm_str r]
theorem spelt {c : Int} : Wr (C FF (n + 1) 23 [.int c] st) fun d s => ∃ y, d = .loc y ∧ Ns s y ∧ Fr st s := by
 refine w_fn [some (.int c), none] (b := c__law_spelt) rfl rfl (by decide) rfl ?_
 unfold c__law_spelt
 obtain ⟨sp1, sp2, sp3⟩ := spell
 refine ws_cons (ws_set (w_ix (w_lst (w_cons (w_cst (w_cons (w_cst (w_cons (w_cst (w_nil ⟨szl 3 (by decide), w_op (w_var rfl (w_cst (r_mod (by decide) ?_)))⟩))))))))))
 have h3 := fm (i := c) (j := 3) (by decide)
 obtain ⟨r, hr, hr3⟩ : ∃ r : Nat, c.fmod 3 = (r : Nat) ∧ r < 3 := ⟨(c.fmod 3).toNat, by omega, by omega⟩
 obtain ⟨e, he, hat⟩ : ∃ e ∈ ends, L2.atI (ends.map D.str) (r : Nat) = some (.str e) := ⟨ends[r]'hr3, List.getElem_mem _, atI_get (by rw [List.getElem?_map, List.getElem?_eq_getElem (l := ends) hr3]; rfl)⟩
 rw [hr]
 refine r_ixL (lst_at (gg0.trans rfl)) hat ⟨of_decide_eq_true rfl, k_next (ws_cons (ws_ret (w_comp (w_cst ⟨letters.map D.str, none, fun d => match d with | .str x => some (.str (x ++ e)) | _ => none, ?_, szl _ (by simp [sp2]), fun _ _ => rfl, fun d hd s' F' => ?_, fun s' F' h => k_ret (kf_ret ⟨_, rfl, ⟨letters.map fun x => x ++ e, ?_, by simp [sp2], fun x hx => ?_⟩, (Fr.app _).trans F'⟩)⟩))))⟩
 · show (if (Str.ofString "xykoabfghmn").length ≤ sizeLine then some ((Str.ofString "xykoabfghmn").cps.toList.map fun c => D.str ⟨#[c]⟩, none) else none) = some (letters.map D.str, none)
   rw [if_pos (szl _ (by omega)), letters, List.map_map]; rfl
 · obtain ⟨x, hx, rfl⟩ := List.mem_map.mp hd
   have := List.all_eq_true.mp (List.all_eq_true.mp sp1 e he) x hx
   simp only [Bool.and_eq_true, decide_eq_true_eq] at this
   exact w_turnC (env' := [some (.str x), some (.str e)]) rfl (wi_nil (wp_t (w_op (w_var rfl (w_var rfl (r_addS (szl _ (by omega)) ⟨rfl, .refl _⟩))))))
 · rw [h, fm_str]
 · obtain ⟨y, hy, rfl⟩ := List.mem_map.mp hx
   have := List.all_eq_true.mp (List.all_eq_true.mp sp1 e he) y hy
   simp only [Bool.and_eq_true, decide_eq_true_eq] at this
   exact this.1
theorem tm_unk {k : Nat} {x : Str} (h : PyData.canLay0 (.str x) = true) : Tm (k + 1) (.tup [W "unknown", .str x]) := ⟨.unk x h, by rw [inn_unk]; simp⟩
theorem thing {x y : Nat} (hxy : y ≠ x) : ∀ (k : Nat) {n : Nat} {st : Sto}, Is st x → Ns st y → Wr (C FF (n + 2 + k) 26 [.loc x, .loc y, .int (k : Nat)] st) fun d s => Tm (k + 1) d ∧ Is s x ∧ FrO x st s := by
 intro k
 induction k with
 | zero =>
  intro n st hx hy
  refine w_fn [some (.loc x), some (.loc y), some (.int (0 : Nat)), none] (b := c__law_thing) rfl rfl (by decide) rfl ?_
  unfold c__law_thing
  refine ws_cons (ws_set (w_call (w_cons (w_var rfl (w_cons (w_cst (w_nil ((taken (n := n) (m := 3) hx (by decide)).imp ?_))))))))
  rintro _ s1 ⟨r, rfl, hr, I1, F1⟩
  have un : ∀ {Q : Fl → Sto → Prop}, (∀ d, Tm 1 d → Q (.ret d) s1) → Wr (execSs tab (C FF (n + 1)) FF (.cons (.ret (.tupE (.cons (.cst (.str (Str.ofString "unknown"))) (.cons (.ix (.var 1) (.op .add (.cst (.int 4)) (.op .mod (.var 3) (.cst (.int 2))))) .nil)))) .nil) [some (.loc x), some (.loc y), some (.int (0 : Nat)), some (.int (r : Nat))] s1) Q := by
   intro Q hQ
   have h2 := fm (i := (r : Nat)) (j := 2) (by decide)
   obtain ⟨xs, z, e1, e2, e3⟩ := (hy.mono' F1 hxy).get (r := 4 + ((r : Int).fmod 2).toNat) (by omega)
   refine ws_cons (ws_ret (w_tup (w_cons (w_cst (w_cons (w_ix (w_var rfl (w_op (w_cst (w_op (w_var rfl (w_cst (r_mod (by decide) (r_add (r_ixL e1 (d := .str z) ?_ (w_nil ⟨szl 2 (by decide), k_ret (hQ _ (tm_unk e3))⟩))))))))))))))))
   rw [← e2]; congr 1; omega
  refine ⟨of_decide_eq_true rfl, k_next (ws_cons (ws_if (wt_and (wt_cm (w_var rfl (w_cst (r_eqi ⟨_, rfl, fun g => ?_, fun g => ?_⟩)))))))⟩
  · refine wt_cm (w_var rfl (w_cst (r_gt ⟨_, rfl, wp_f (ws_nil (k_next (un fun d hd => kf_ret ⟨hd, I1, F1⟩)))⟩)))
  · exact wp_f (ws_nil (k_next (un fun d hd => kf_ret ⟨hd, I1, F1⟩)))
 | succ k ih =>
  intro n st hx hy
  refine w_fn [some (.loc x), some (.loc y), some (.int ((k + 1 : Nat) : Int)), none] (b := c__law_thing) rfl rfl (by decide) rfl ?_
  unfold c__law_thing
  have ta := taken (FF := FF) (n := n + 1 + k) (m := 3) hx (by decide)
  rw [show n + 1 + k + 1 = n + 2 + k by omega] at ta
  refine ws_cons (ws_set (w_call (w_cons (w_var rfl (w_cons (w_cst (w_nil (ta.imp ?_))))))))
  rintro _ s1 ⟨r, rfl, hr, I1, F1⟩
  have hy1 := hy.mono' F1 hxy
  have un : ∀ {Q : Fl → Sto → Prop}, (∀ d, Tm (k + 1 + 1) d → Q (.ret d) s1) → Wr (execSs tab (C FF (n + 2 + k)) FF (.cons (.ret (.tupE (.cons (.cst (.str (Str.ofString "unknown"))) (.cons (.ix (.var 1) (.op .add (.cst (.int 4)) (.op .mod (.var 3) (.cst (.int 2))))) .nil)))) .nil) [some (.loc x), some (.loc y), some (.int ((k + 1 : Nat) : Int)), some (.int (r : Nat))] s1) Q := by
   intro Q hQ
   have h2 := fm (i := (r : Nat)) (j := 2) (by decide)
   obtain ⟨xs, z, e1, e2, e3⟩ := hy1.get (r := 4 + ((r : Int).fmod 2).toNat) (by omega)
   refine ws_cons (ws_ret (w_tup (w_cons (w_cst (w_cons (w_ix (w_var rfl (w_op (w_cst (w_op (w_var rfl (w_cst (r_mod (by decide) (r_add (r_ixL e1 (d := .str z) ?_ (w_nil ⟨szl 2 (by decide), k_ret (hQ _ (tm_unk e3))⟩))))))))))))))))
   rw [← e2]; congr 1; omega
  refine ⟨of_decide_eq_true rfl, k_next (ws_cons (ws_if (wt_and (wt_cm (w_var rfl (w_cst (r_eqi ⟨_, rfl, fun g => ?_, fun g => ?_⟩)))))))⟩
  · obtain ⟨xs, z, e1, e2, e3⟩ := hy1.get (r := 8) (by omega)
    refine wt_cm (w_var rfl (w_cst (r_gt ⟨_, rfl, ?_⟩)))
    rw [decide_eq_true (by omega : (0 : Int) < ((k + 1 : Nat) : Int))]
    refine wp_t (ws_cons (ws_ret (w_tup (w_cons (w_cst (w_cons (w_ix (w_var rfl (w_cst (r_ixL e1 (d := .str z) e2 (w_cons (w_tup (w_cons (w_call (w_cons (w_var rfl (w_cons (w_var rfl (w_cons (w_op (w_var rfl (w_cst (r_sub (w_nil ?_))))))))))))))))))))))))
    have := ih (n := n) I1 hy1
    rw [show ((k + 1 : Nat) : Int) - 1 = (k : Nat) by omega]
    refine this.imp ?_
    rintro d s2 ⟨hd, I2, F2⟩
    refine w_nil ⟨szl 1 (by decide), w_nil ⟨szl 3 (by decide), k_ret (k_ret (kf_ret ⟨⟨.call z e3 [d] (by simp), by rw [inn_call]; simp [hd]⟩, I2, F1.trans F2⟩))⟩⟩
  · exact wp_f (ws_nil (k_next (un fun d hd => kf_ret ⟨hd, I1, F1⟩)))
end
section
variable {FF n k : Nat} {st : Sto}
theorem ok_ats {As : List D} (h : ∀ a ∈ As, At a) : As.all (okN 39) = true := List.all_eq_true.mpr fun a ha => okN_mono (by omega) (h a ha).ok
theorem rng_of (r : Nat) (h : r ≤ 1000) : rngOf [.int (r : Nat)] = some (rngL 0 r) := by
 simp only [rngOf]
 rw [if_pos (by omega)]; rfl
theorem rng_len (r : Nat) : (rngL 0 r).length = r := by simp [rngL]
theorem tm_num {k : Nat} {i j : Int} : Tm (k + 1) (.tup [W "number", .tup [.int i, .int j]]) := ⟨.num i j, by rw [inn_num]; simp⟩
def Ats (s : Sto) (p : Nat) (As : List D) : Prop := s[p]? = some (.lst As) ∧ ∀ a ∈ As, At a
theorem Ats.mono' {x p : Nat} {s s' : Sto} {As : List D} (h : Ats s p As) (F : FrO x s s') (hp : p ≠ x) : Ats s' p As := ⟨F.at h.1 hp, h.2⟩
theorem Ats.mono {p : Nat} {s s' : Sto} {As : List D} (h : Ats s p As) (F : Fr s s') : Ats s' p As := ⟨F.at h.1, h.2⟩
theorem aws : ∀ r : Nat, r < 3 → ∃ w, AW w ∧ L2.atI [D.str (Str.ofString "atmost"), .str (Str.ofString "below"), .str (Str.ofString "same")] (r : Nat) = some (.str w)
 | 0, _ => ⟨_, .inl rfl, rfl⟩
 | 1, _ => ⟨_, .inr (.inl rfl), rfl⟩
 | 2, _ => ⟨_, .inr (.inr rfl), rfl⟩
 | r + 3, h => by omega
theorem atoms {y : Nat} {c : Int} (hy : Ns st y) (hF : 101 < FF) : Wr (C FF (n + 4) 32 [.loc y, .int c] st) fun d s => ∃ p As, d = .loc p ∧ st.length ≤ p ∧ Ats s p As ∧ 1 ≤ As.length ∧ As.length ≤ 6 ∧ Fr st s := by
  have hyl : y < st.length := by obtain ⟨ns, e, _⟩ := hy; exact (List.getElem?_eq_some_iff.mp e).1
  refine w_fn [some (.loc y), some (.int c), none, none, none, none, none, none] (b := c__law_atoms) rfl rfl (by decide) rfl ?_
  unfold c__law_atoms
  refine ws_cons (ws_set (w_call (w_cons (w_var rfl (w_cons (w_cst (w_nil ((draws (n := n + 2) (M := 60) (by decide) hF).imp ?_))))))))
  rintro _ s1 ⟨rfl, F1, I1⟩
  have hx1 : st.length < s1.length := by obtain ⟨is, e⟩ := I1; exact (List.getElem?_eq_some_iff.mp e).1
  refine ⟨of_decide_eq_true rfl, k_next (ws_cons (ws_set (w_lst (w_nil ⟨szl 0 (by decide), of_decide_eq_true rfl, ?_⟩))))⟩
  have A2 : Ats (s1 ++ [Cell.lst []]) s1.length [] := ⟨gg0.trans rfl, by simp⟩
  have I2 := I1.mono (.app [Cell.lst []])
  have F2 : Fr st (s1 ++ [Cell.lst []]) := F1.trans (.app _)
  generalize s1 ++ [Cell.lst []] = s2 at *
  generalize s1.length = p at *
  refine k_next (ws_cons (ws_forR (w_cons (w_op (w_cst (w_call (w_cons (w_var rfl (w_cons (w_cst (w_nil ((taken (n := n + 2) (m := 6) I2 (by decide)).imp ?_))))))))))))
  rintro _ s3 ⟨r, rfl, hr, I3, F3⟩
  refine r_add (w_nil ⟨rngL 0 (1 + r), ?_, ?_⟩)
  · rw [show (1 : Int) + (r : Nat) = ((1 + r : Nat) : Int) by omega]; exact rng_of _ (by omega)
  have A3 := A2.mono' F3 (by omega)
  refine w_loop (fun i env s => (∃ a b c' d, env = [some (.loc y), some (.int c), some (.loc st.length), some (.loc p), a, b, c', d]) ∧ Is s st.length ∧ (∃ As, Ats s p As ∧ As.length = i) ∧ Fr st s) (fun _ _ _ _ => rfl) ⟨⟨_, _, _, _, rfl⟩, I3, ⟨[], A3, rfl⟩, FrO.fr F2 F3 (Nat.le_refl _)⟩ ?_ ?_
  · rintro j d hd env s ⟨⟨a, b, c', d', rfl⟩, I, ⟨As, A, hl⟩, F⟩
    have hj : j < 1 + r := by have := (List.getElem?_eq_some_iff.mp hd).1; rwa [rng_len] at this
    refine w_turn (env' := [some (.loc y), some (.int c), some (.loc st.length), some (.loc p), some d, b, c', d']) rfl ?_
    have big : ∀ {s : Sto}, As.length < sizeLine := Nat.lt_of_lt_of_le (by omega : As.length < 16000000) (by decide)
    have done : ∀ {s : Sto} {e : DD.Env} {z : D}, (∃ a b c' d, e = [some (.loc y), some (.int c), some (.loc st.length), some (.loc p), a, b, c', d]) → Is s st.length → Ats s p As → Fr st s → At z → (∃ a b c' d, e = [some (.loc y), some (.int c), some (.loc st.length), some (.loc p), a, b, c', d]) ∧ Is (s.set p (.lst (As ++ [z]))) st.length ∧ (∃ Bs, Ats (s.set p (.lst (As ++ [z]))) p Bs ∧ Bs.length = j + 1) ∧ Fr st (s.set p (.lst (As ++ [z]))) := by
      intro s e z he I A F hz
      obtain ⟨is, hi⟩ := I
      refine ⟨he, ⟨is, by rw [List.getElem?_set_ne (by omega)]; exact hi⟩, ⟨As ++ [z], ⟨set_at A.1 _, fun a ha => ?_⟩, by simp [hl]⟩, F.set (by omega) _⟩
      rcases List.mem_append.mp ha with ha | ha
      · exact A.2 a ha
      · rw [List.mem_singleton.mp ha]; exact hz
    have els : ∀ {s : Sto} {Q : Fl → Sto → Prop}, Is s st.length → Ats s p As → Fr st s → (∀ env' s', ((∃ a b c' d, env' = [some (.loc y), some (.int c), some (.loc st.length), some (.loc p), a, b, c', d]) ∧ Is s' st.length ∧ (∃ As, Ats s' p As ∧ As.length = j + 1) ∧ Fr st s') → Q (.next env') s') →
        Wr (execS tab (C FF (n + 3)) FF (.ifS (.cm .eq (.call 22 (.cons (.var 2) (.cons (.cst (.int 3)) .nil)) []) (.cst (.int 0))) (.cons (.ex (.mt .append (.var 3) (.cons (.tupE (.cons (.cst (.str (Str.ofString "same"))) (.cons (.call 26 (.cons (.var 2) (.cons (.var 0) (.cons (.cst (.int 1)) .nil))) []) (.cons (.call 26 (.cons (.var 2) (.cons (.var 0) (.cons (.cst (.int 0)) .nil))) []) .nil)))) .nil))) .nil) (.cons (.set 5 (.ix (.lstE (.cons (.cst (.str (Str.ofString "atmost"))) (.cons (.cst (.str (Str.ofString "below"))) (.cons (.cst (.str (Str.ofString "same"))) .nil)))) (.call 22 (.cons (.var 2) (.cons (.cst (.int 3)) .nil)) []))) (.cons (.ex (.mt .append (.var 3) (.cons (.tupE (.cons (.var 5) (.cons (.tupE (.cons (.cst (.str (Str.ofString "unknown"))) (.cons (.ix (.var 0) (.call 22 (.cons (.var 2) (.cons (.cst (.int 4)) .nil)) [])) .nil))) (.cons (.tupE (.cons (.cst (.str (Str.ofString "number"))) (.cons (.call 25 (.cons (.var 2) .nil) []) .nil))) .nil)))) .nil))) .nil))) [some (.loc y), some (.int c), some (.loc st.length), some (.loc p), some d, b, c', d'] s) Q := by
      intro s Q I A F hQ
      refine ws_if (wt_cm (w_call (w_cons (w_var rfl (w_cons (w_cst (w_nil ((taken (n := n + 2) (m := 3) I (by decide)).imp ?_))))))))
      rintro _ t1 ⟨r1, rfl, hr1, J1, G1⟩
      have A1 := A.mono' G1 (by omega)
      have E1 := FrO.fr F G1 (Nat.le_refl _)
      refine w_cst (r_eqi ⟨_, rfl, fun g => ?_, fun g => ?_⟩)
      · refine ws_cons (ws_ex (w_mt (w_var rfl ⟨rdy_lst A1.1, w_cons (w_tup (w_cons (w_cst (w_cons (w_call (w_cons (w_var rfl (w_cons (w_var rfl (w_cons (w_cst (w_nil ((thing (n := n) (x := st.length) (y := y) (by omega) 1 J1 (hy.mono E1)).imp ?_)))))))))))))⟩)))
        rintro o1 t2 ⟨ho1, J2, G2⟩
        have E2 := FrO.fr E1 G2 (Nat.le_refl _)
        have A2 := A1.mono' G2 (by omega)
        refine w_cons (w_call (w_cons (w_var rfl (w_cons (w_var rfl (w_cons (w_cst (w_nil ((thing (n := n + 1) (x := st.length) (y := y) (by omega) 0 J2 (hy.mono E2)).imp ?_)))))))))
        rintro o2 t3 ⟨ho2, J3, G3⟩
        have E3 := FrO.fr E2 G3 (Nat.le_refl _)
        have A3 := A2.mono' G3 (by omega)
        exact w_nil ⟨szl 3 (by decide), w_nil (r_append A3.1 (big (s := t3)) (k_next (ws_nil (hQ _ _ (done ⟨_, _, _, _, rfl⟩ J3 A3 E3 (.mk _ o1 o2 (.inr (.inr rfl)) ho1 (ho2.mono (by omega)))))))) ⟩
      · refine ws_cons (ws_set (w_ix (w_lst (w_cons (w_cst (w_cons (w_cst (w_cons (w_cst (w_nil ⟨szl 3 (by decide), w_call (w_cons (w_var rfl (w_cons (w_cst (w_nil ((taken (n := n + 2) (m := 3) (J1.mono (.app _)) (by decide)).imp ?_))))))⟩))))))))))
        rintro _ t2 ⟨r2, rfl, hr2, J2, G2⟩
        have gl : ∀ {ds : List D}, (t1 ++ [Cell.lst ds])[t1.length]? = some (.lst ds) := gg0.trans rfl
        obtain ⟨w, hw, hat⟩ := aws r2 hr2
        have hx1 : st.length < t1.length := by obtain ⟨is, e⟩ := J1; exact (List.getElem?_eq_some_iff.mp e).1
        have E2 := FrO.fr (E1.trans (.app _)) G2 (Nat.le_refl _)
        have A2 := (A1.mono (.app _)).mono' G2 (by omega)
        refine r_ixL (lst_at (G2.at gl (by omega))) hat ⟨of_decide_eq_true rfl, k_next (ws_cons (ws_ex (w_mt (w_var rfl ⟨rdy_lst A2.1, w_cons (w_tup (w_cons (w_var rfl (w_cons (w_tup (w_cons (w_cst (w_cons (w_ix (w_var rfl (w_call (w_cons (w_var rfl (w_cons (w_cst (w_nil ((taken (n := n + 2) (m := 4) J2 (by decide)).imp ?_)))))))))))))))))⟩))))⟩
        rintro _ t3 ⟨r3, rfl, hr3, J3, G3⟩
        have E3 := FrO.fr E2 G3 (Nat.le_refl _)
        have A3 := A2.mono' G3 (by omega)
        obtain ⟨xs, z, e1, e2, e3⟩ := (hy.mono E3).get (r := r3) (by omega)
        refine r_ixL e1 e2 (w_nil ⟨szl 2 (by decide), w_cons (w_tup (w_cons (w_cst (w_cons (w_call (w_cons (w_var rfl (w_nil ((fraction (n := n + 1) J3).imp ?_)))))))))⟩)
        rintro _ t4 ⟨i1, i2, rfl, J4, G4⟩
        have E4 := FrO.fr E3 G4 (Nat.le_refl _)
        have A4 := A3.mono' G4 (by omega)
        exact w_nil ⟨szl 2 (by decide), w_nil ⟨szl 3 (by decide), w_nil (r_append A4.1 (big (s := t4)) (k_next (ws_nil (hQ _ _ (done ⟨_, _, _, _, rfl⟩ J4 A4 E4 (.mk w _ _ hw (tm_unk e3) tm_num))))))⟩⟩
    have Fa : Fr s (s ++ [Cell.lst []]) := .app _
    refine ws_cons (ws_if (wt_and (wt_cm (w_var rfl (w_lst (w_nil ⟨szl 0 (by decide), r_neL (ys := []) (lst_at (Fa.at A.1)) (lst_at (gg0.trans rfl)) (ok_ats A.2) rfl ⟨_, rfl, fun g => ?_, fun g => ?_⟩⟩))))))
    · refine wt_cm (w_call (w_cons (w_var rfl (w_cons (w_cst (w_nil ((taken (n := n + 2) (m := 4) (I.mono Fa) (by decide)).imp ?_)))))))
      rintro _ t1 ⟨r1, rfl, hr1, J1, G1⟩
      have A1 := (A.mono Fa).mono' G1 (by omega)
      have E1 := FrO.fr (F.trans Fa) G1 (Nat.le_refl _)
      have hne : 0 < As.length := by
        rcases As with _ | ⟨a, r⟩
        · simp at g
        · simp
      refine w_cst (r_eqi ⟨_, rfl, fun g => ?_, fun g => ?_⟩)
      · refine ws_cons (ws_unp (w_ix (w_var rfl (w_call (w_cons (w_var rfl (w_cons (w_bt (w_cons (w_var rfl (w_nil (r_lenL (lst_at A1.1) (w_nil ((taken (n := n + 2) (m := As.length) J1 hne).imp ?_))))))))))))))
        rintro _ t2 ⟨r2, rfl, hr2, J2, G2⟩
        have E2 := FrO.fr E1 G2 (Nat.le_refl _)
        have A2 := A1.mono' G2 (by omega)
        obtain ⟨z, hz, hat⟩ := atI_lt (xs := As) hr2
        have hAt := A2.2 z hz
        refine r_ixL (lst_at A2.1) hat ?_
        cases hAt with
        | mk w o1 o2 hw h1 h2 =>
          refine ⟨_, rfl, k_next (ws_cons (ws_ex (w_mt (w_var rfl ⟨rdy_lst A2.1, w_cons (w_tup (w_cons (w_var rfl (w_cons (w_var rfl (w_cons (w_var rfl (w_nil ⟨szl 3 (by decide), w_nil (r_append A2.1 (big (s := t2)) (k_next (ws_nil (k_next (ws_nil ⟨_, rfl, ?_⟩)))))⟩))))))))⟩))))⟩
          exact done ⟨_, _, _, _, rfl⟩ J2 A2 E2 (.mk w o2 o1 hw h2 h1)
      · exact ws_cons (els J1 A1 E1 fun env' s' h => k_next (ws_nil (k_next (ws_nil ⟨_, rfl, h⟩))))
    · exact wp_f (ws_cons (els (I.mono Fa) (A.mono Fa) (F.trans Fa) fun env' s' h => k_next (ws_nil (k_next (ws_nil ⟨_, rfl, h⟩)))))
  · rintro env s ⟨⟨a, b, c', d', rfl⟩, I, ⟨As, A, hl⟩, F⟩
    rw [rng_len] at hl
    exact k_next (ws_cons (ws_ret (w_var rfl (k_ret (kf_ret ⟨p, As, rfl, by omega, A, by omega, by omega, F⟩)))))
end
section
variable {FF n k : Nat} {st : Sto}
theorem cnts : ∀ r : Nat, r < 5 → ∃ c : Nat, c ≤ 3 ∧ L2.atI [D.int 2, .int 3, .int 1, .int 2, .int 0] (r : Nat) = some (.int (c : Nat))
 | 0, _ => ⟨2, by decide, rfl⟩
 | 1, _ => ⟨3, by decide, rfl⟩
 | 2, _ => ⟨1, by decide, rfl⟩
 | 3, _ => ⟨2, by decide, rfl⟩
 | 4, _ => ⟨0, by decide, rfl⟩
 | r + 5, h => by omega
theorem ors : ∀ r : Nat, r < 2 → ∃ o : Bool, L2.atI [W "and", W "or"] (r : Nat) = some (.str (oW o))
 | 0, _ => ⟨false, rfl⟩
 | 1, _ => ⟨true, rfl⟩
 | r + 2, h => by omega
theorem built {x a : Nat} {As : List D} (hxa : a ≠ x) (h1 : 1 ≤ As.length) : ∀ (k : Nat) {n : Nat} {st : Sto}, Is st x → Ats st a As → Wr (C FF (n + 2 + k) 30 [.loc x, .loc a, .int (k : Nat)] st) fun d s => Sn k d ∧ Is s x ∧ FrO x st s := by
 have leaf : ∀ {k n m : Nat} {s : Sto} {v w z : Option D} {Q : Fl → Sto → Prop}, m = n + 1 → Is s x → Ats s a As → (∀ d s', Sn k d → Is s' x → FrO x s s' → Q (.ret d) s') → Wr (execSs tab (C FF m) FF (.cons (.ret (.ix (.var 1) (.call 22 (.cons (.var 0) (.cons (.bt .lenB (.cons (.var 1) .nil)) .nil)) []))) .nil) [some (.loc x), some (.loc a), v, w, z] s) Q := by
  intro k n m s v w z Q hm I A hQ
  subst hm
  refine ws_cons (ws_ret (w_ix (w_var rfl (w_call (w_cons (w_var rfl (w_cons (w_bt (w_cons (w_var rfl (w_nil (r_lenL (lst_at A.1) (w_nil ((taken (n := n) (m := As.length) I h1).imp ?_))))))))))))))
  rintro _ s2 ⟨r, rfl, hr, I2, F2⟩
  obtain ⟨d, hd, hat⟩ := atI_lt (xs := As) hr
  exact r_ixL (lst_at (A.mono' F2 hxa).1) hat (k_ret (hQ d s2 (.atm (A.2 d hd)) I2 F2))
 intro k
 induction k with
 | zero =>
  intro n st I A
  refine w_fn [some (.loc x), some (.loc a), some (.int (0 : Nat)), none, none] (b := c__law_built) rfl rfl (by decide) rfl ?_
  unfold c__law_built
  refine ws_cons (ws_set (w_call (w_cons (w_var rfl (w_cons (w_cst (w_nil ((taken (n := n) (m := 5) I (by decide)).imp ?_))))))))
  rintro _ s1 ⟨r, rfl, hr, I1, F1⟩
  have A1 := A.mono' F1 hxa
  refine ⟨of_decide_eq_true rfl, k_next (ws_cons (ws_if (wt_or (wt_cm (w_var rfl (w_cst (r_eqi ⟨_, rfl, fun _ => wp_t ?_, fun g => absurd g (by decide)⟩)))))))⟩
  exact leaf (n := n) rfl I1 A1 fun d s' hd I' F' => k_ret (kf_ret ⟨hd, I', F1.trans F'⟩)
 | succ k ih =>
  intro n st I A
  refine w_fn [some (.loc x), some (.loc a), some (.int ((k + 1 : Nat) : Int)), none, none] (b := c__law_built) rfl rfl (by decide) rfl ?_
  unfold c__law_built
  have ta : ∀ {s : Sto} {m : Nat}, Is s x → 0 < m → Wr (C FF (n + 2 + k) 22 [.loc x, .int (m : Nat)] s) fun d s' => ∃ r : Nat, d = .int (r : Nat) ∧ r < m ∧ Is s' x ∧ FrO x s s' := by
   intro s m I hm
   have := taken (FF := FF) (n := n + 1 + k) (m := m) I hm
   rw [show n + 1 + k + 1 = n + 2 + k by omega] at this
   exact this
  refine ws_cons (ws_set (w_call (w_cons (w_var rfl (w_cons (w_cst (w_nil ((ta (m := 5) I (by decide)).imp ?_))))))))
  rintro _ s1 ⟨r, rfl, hr, I1, F1⟩
  have A1 := A.mono' F1 hxa
  refine ⟨of_decide_eq_true rfl, k_next (ws_cons (ws_if (wt_or (wt_cm (w_var rfl (w_cst (r_eqi ⟨_, rfl, ?_⟩)))))))⟩
  rw [decide_eq_false (by omega : ¬ ((k + 1 : Nat) : Int) = 0)]
  refine wp_f (wt_cm (w_var rfl (w_cst (r_lt ⟨_, rfl, fun g => ?_, fun g => ?_⟩))))
  · exact leaf (k := k + 1) (n := n + 1 + k) (by show n + 2 + k = n + 1 + k + 1; omega) I1 A1 fun d s' hd I' F' => k_ret (kf_ret ⟨hd, I', F1.trans F'⟩)
  · have g := of_decide_eq_false g
    refine ws_nil (k_next (ws_cons (ws_if (wt_cm (w_var rfl (w_cst (r_eqi ⟨_, rfl, fun g2 => ?_, fun g2 => ?_⟩)))))))
    · refine ws_cons (ws_ret (w_tup (w_cons (w_cst (w_cons (w_call (w_cons (w_var rfl (w_cons (w_var rfl (w_cons (w_op (w_var rfl (w_cst (r_sub (w_nil ?_))))))))))))))))
      rw [show ((k + 1 : Nat) : Int) - 1 = (k : Nat) by omega]
      refine (ih (n := n) I1 A1).imp ?_
      rintro d s2 ⟨hd, I2, F2⟩
      exact w_nil ⟨szl 2 (by decide), k_ret (k_ret (kf_ret ⟨.neg hd, I2, F1.trans F2⟩))⟩
    · refine ws_nil (k_next (ws_cons (ws_set (w_compR (w_tup (w_cons (w_ix (w_lst (w_cons (w_cst (w_cons (w_cst (w_cons (w_cst (w_cons (w_cst (w_cons (w_cst (w_nil ⟨szl 5 (by decide), w_call (w_cons (w_var rfl (w_cons (w_cst (w_nil ((ta (m := 5) (I1.mono (.app _)) (by decide)).imp ?_))))))⟩)))))))))))))))))))
      rintro _ s2 ⟨r2, rfl, hr2, I2, F2⟩
      have hx1 : x < s1.length := by obtain ⟨is, e⟩ := I1; exact (List.getElem?_eq_some_iff.mp e).1
      have gl : ∀ {ds : List D}, (s1 ++ [Cell.lst ds])[s1.length]? = some (.lst ds) := gg0.trans rfl
      obtain ⟨c, hc, hat⟩ := cnts r2 hr2
      have Fa : FrO x s1 s2 := (FrO.of (.app _)).trans F2
      have A2 := A1.mono' Fa hxa
      have hx2 : x < s2.length := by have := Fa.1; omega
      have ha2 : a < s2.length := (List.getElem?_eq_some_iff.mp A2.1).1
      refine r_ixL (lst_at (F2.at gl (by omega))) hat (w_nil ⟨szl 1 (by decide), rngL 0 c, none, fun i ys s' => ys.length = i ∧ (∀ q ∈ ys, Sn k q) ∧ Is s' x ∧ FrO x s2 s', ?_, szl _ (by rw [rng_len]; omega), fun _ _ _ _ => rfl, ⟨rfl, by simp, I2.mono (.app _), .of (.app _)⟩, ?_, ?_⟩)
      · simp only [itOf, rng_of c (by omega), Option.map_some]
      · rintro j d hd t1 ys ⟨hy, hS, J1, G1⟩ hn
        refine w_turnC (env' := [some d, some (.loc x), some (.loc a), some (.int ((k + 1 : Nat) : Int))]) rfl (wi_nil (wp_t (w_call (w_cons (w_var rfl (w_cons (w_var rfl (w_cons (w_op (w_var rfl (w_cst (r_sub (w_nil ?_)))))))))))))
        rw [show ((k + 1 : Nat) : Int) - 1 = (k : Nat) by omega]
        refine (ih (n := n) J1 (A2.mono' G1 hxa)).imp ?_
        rintro q t2 ⟨hq, J2, G2⟩
        refine ⟨G2.at hn (by omega), .inl ⟨q, rfl, by simp [hy], fun z hz => ?_, ?_, ?_⟩⟩
        · rcases List.mem_append.mp hz with hz | hz
          · exact hS z hz
          · rw [List.mem_singleton.mp hz]; exact hq
        · obtain ⟨is, e⟩ := J2
          exact ⟨is, by rw [List.getElem?_set_ne (by omega)]; exact e⟩
        · have G := G1.trans G2
          exact ⟨by rw [List.length_set]; exact G.1, fun i hi hix => by rw [List.getElem?_set_ne (by omega)]; exact G.2 i hi hix⟩
      · rintro s3 ys ⟨hy, hS, J3, G3⟩ hn
        rw [rng_len] at hy
        have h2 := fm (i := (r : Nat)) (j := 2) (by decide)
        obtain ⟨o, ho⟩ := ors ((r : Int).fmod 2).toNat (by omega)
        refine ⟨of_decide_eq_true rfl, k_next (ws_cons (ws_ret (w_tup (w_cons (w_ix (w_lst (w_cons (w_cst (w_cons (w_cst (w_nil ⟨szl 2 (by decide), w_op (w_var rfl (w_cst (r_mod (by decide) (r_ixL (lst_at (gg0.trans rfl)) (d := .str (oW o)) ?_ (w_cons (w_bt (w_cons (w_var rfl (w_nil (r_tupleB (lst_at ((Fr.app _).at hn)) (w_nil ⟨szl 2 (by decide), k_ret (kf_ret ⟨.bin o ys (by omega) hS, J3.mono (.app _), F1.trans (Fa.trans (G3.trans (.of (.app _))))⟩)⟩)))))))))))⟩)))))))))))⟩
        rw [← ho]; congr 1; omega
end
section
variable {FF n k : Nat} {st : Sto}
theorem r_neB3 {Q : D → Sto → Prop} {l m : Nat} {a b c : Bool} (h1 : lstOf st l = some [.bl a, .bl b, .bl c]) (h2 : lstOf st m = some [.bl a, .bl b, .bl c]) (q : Q (.bl false) st) : Wr (cmD .ne (.loc l) (.loc m) st) Q := by
 refine ⟨_, _, ?_, q⟩
 simp only [cmD, DD.eqV, pyOf, h1, h2, Option.bind_some, List.map_cons, List.map_nil, optAll, Option.map_some]
 cases a <;> cases b <;> cases c <;> rfl
theorem iv_mul (b : Bool) : (2 : Int) * (if b then 1 else 0) = iv (some b) := by cases b <;> rfl
def Kn (K : List (D × D)) (f : D → Option Bool) : Prop := ∀ d, dLook K d = (f d).map fun b => .int (iv (some b))
theorem kn_get {K : List (D × D)} {P : List (D × Bool)} {d : D} {b : Bool} (h : Kn K (fP P)) (hn : dLook K d = none) : Kn (K ++ [(d, .int (iv (some b)))]) (fP (P ++ [(d, b)])) := by
 intro x
 rw [fP_snoc]
 have hx := h x
 have e : dLook (K ++ [(d, .int (iv (some b)))]) x = match dLook K x with | some v => some v | none => if d = x then some (.int (iv (some b))) else none := by
  unfold dLook
  rw [List.find?_append]
  cases K.find? (fun p => decide (p.1 = x)) with
  | some v => rfl
  | none => by_cases w : d = x <;> simp [w]
 rw [e, hx]
 cases fP P x with
 | some v => rfl
 | none => by_cases w : d = x <;> simp [w]
theorem kn_same {K : List (D × D)} {P : List (D × Bool)} {d v : D} {b : Bool} (h : Kn K (fP P)) (hn : dLook K d = some v) : Kn K (fP (P ++ [(d, b)])) := by
 intro x
 rw [fP_snoc, h x]
 cases hx : fP P x with
 | some v => rfl
 | none =>
  have : d ≠ x := fun e => by subst e; rw [h d, hx] at hn; cases hn
  simp [this]
noncomputable def body : Ss := (.cons (.set 10 (.call 30 (.cons (.call 21 (.cons (.var 9) (.cons (.cst (.int 60)) .nil)) []) (.cons (.var 2) (.cons (.cst (.int 3)) .nil))) [])) (.cons (.set 11 (.cm .eq (.call 31 (.cons (.var 10) (.cons (.var 6) .nil)) []) (.cst (.int 0)))) (.cons (.set 12 (.lstE (.cons (.call 19 (.cons (.var 10) (.cons (.bt .tupleB (.cons (.var 4) .nil)) .nil)) []) (.cons (.call 19 (.cons (.tupE (.cons (.cst (.str (Str.ofString "not"))) (.cons (.tupE (.cons (.cst (.str (Str.ofString "not"))) (.cons (.var 10) .nil))) .nil))) (.cons (.bt .tupleB (.cons (.var 4) .nil)) .nil)) []) .nil)))) (.cons (.ex (.mt .append (.var 12) (.cons (.call 19 (.cons (.var 10) (.cons (.tupE .nil) .nil)) []) .nil))) (.cons (.ifS (.notE (.bt .allB (.cons (.comp 0 true 1 [0] [] (.var 12) .nil (.isi (.var 0) (.b "bool"))) .nil))) (.cons (.ret (.cst (.bl false))) .nil) .nil) (.cons (.ifS (.cm .ne (.var 12) (.lstE (.cons (.var 11) (.cons (.var 11) (.cons (.cm .eq (.call 31 (.cons (.var 10) (.cons .dnewN .nil)) []) (.cst (.int 0))) .nil))))) (.cons (.ret (.cst (.bl false))) .nil) .nil) .nil))))))
theorem body_ok {a p q : Nat} {As : List D} {P : List (D × Bool)} {K : List (D × D)} {c : Int} {e0 e1 e3 e5 e7 e8 e10 e11 e12 : Option D} {Q : Fl → Sto → Prop} (A : Ats st a As) (h1 : 1 ≤ As.length) (hp : st[p]? = some (.lst (P.map encS))) (hP : ∀ p ∈ P, At p.1) (hPl : P.length ≤ 100) (hq : st[q]? = some (.dcn K)) (hK : Kn K (fP P)) (hF : 200 < FF)
    (hQ : ∀ s e10 e11 e12, Fr st s → Q (.next [e0, e1, some (.loc a), e3, some (.loc p), e5, some (.loc q), e7, e8, some (.int c), e10, e11, e12]) s) :
    Wr (execSs tab (C FF (n + 13)) FF body [e0, e1, some (.loc a), e3, some (.loc p), e5, some (.loc q), e7, e8, some (.int c), e10, e11, e12] st) Q := by
  unfold body
  refine ws_cons (ws_set (w_call (w_cons (w_call (w_cons (w_var rfl (w_cons (w_cst (w_nil ((draws (n := n + 12) (M := 60) (by decide) (by omega)).imp ?_))))))))))
  rintro _ s1 ⟨rfl, F1, I1⟩
  have ha := (List.getElem?_eq_some_iff.mp A.1).1
  refine w_cons (w_var rfl (w_cons (w_cst (w_nil ((built (n := n + 8) (x := st.length) (a := a) (by omega) h1 3 I1 (A.mono F1)).imp ?_)))))
  rintro d s2 ⟨hd, _, G2⟩
  have F2 := FrO.fr F1 G2 (Nat.le_refl _)
  refine ⟨of_decide_eq_true rfl, k_next (ws_cons (ws_set (w_cm (w_call (w_cons (w_var rfl (w_cons (w_var rfl (w_nil ((value_ok (n := n + 9) (fun d _ => hK d) 3 hd (F2.at hq)).imp ?_))))))))))⟩
  rintro _ s3 ⟨rfl, F3⟩
  have E3 := F2.trans F3
  refine w_cst (r_eqi ⟨of_decide_eq_true rfl, ?_⟩)
  rw [iv_zero]
  have hd5 : Sn 5 (.tup [W "not", .tup [W "not", d]]) := .neg (.neg hd)
  refine k_next (ws_cons (ws_set (w_lst (w_cons (w_call (w_cons (w_var rfl (w_cons (w_bt (w_cons (w_var rfl (w_nil (r_tupleB (lst_at (E3.at hp)) (w_nil ((is_false (n := n + 2) hP hPl hd (by decide)).imp ?_)))))))))))))))
  rintro _ s4 ⟨rfl, F4⟩
  have E4 := E3.trans F4
  refine w_cons (w_call (w_cons (w_tup (w_cons (w_cst (w_cons (w_tup (w_cons (w_cst (w_cons (w_var rfl (w_nil ⟨szl 2 (by decide), w_nil ⟨szl 2 (by decide), w_cons (w_bt (w_cons (w_var rfl (w_nil (r_tupleB (lst_at (E4.at hp)) (w_nil ((is_false (n := n) hP hPl hd5 (by decide)).imp ?_)))))))⟩⟩))))))))))))
  rintro _ s5 ⟨rfl, F5⟩
  have E5 := E4.trans F5
  rw [tv_neg, tv_neg, map_nn]
  generalize hv : decide (tv 3 (fP P) d = some false) = v
  refine w_nil ⟨szl 2 (by decide), of_decide_eq_true rfl, ?_⟩
  have g6 : (s5 ++ [Cell.lst [D.bl v, D.bl v]])[s5.length]? = some (.lst [D.bl v, D.bl v]) := gg0.trans rfl
  have E6 : Fr st (s5 ++ [Cell.lst [D.bl v, D.bl v]]) := E5.trans (.app _)
  generalize hs6 : s5 ++ [Cell.lst [D.bl v, D.bl v]] = s6 at *
  have l5 := E5.len
  generalize s5.length = w at *
  have hnil : ∀ p ∈ ([] : List (D × Bool)), At p.1 := by simp
  refine k_next (ws_cons (ws_ex (w_mt (w_var rfl ⟨rdy_lst g6, w_cons (w_call (w_cons (w_var rfl (w_cons (w_tup (w_nil ⟨szl 0 (by decide), w_nil ((is_false (P := []) (n := n + 2) hnil (by decide) hd (by decide)).imp ?_)⟩))))))⟩))))
  rintro _ s7 ⟨rfl, F7⟩
  generalize hu : decide (tv 3 (fP []) d = some false) = u
  have g7 := F7.at g6
  refine w_nil (r_append g7 (Nat.lt_of_lt_of_le (show 2 < 16000000 by decide) (by decide)) ?_)
  have g8 := set_at g7 (.lst ([D.bl v, D.bl v] ++ [D.bl u]))
  have E8 : Fr st (s7.set w (.lst ([D.bl v, D.bl v] ++ [D.bl u]))) := (E6.trans F7).set l5 _
  generalize s7.set w (.lst ([D.bl v, D.bl v] ++ [D.bl u])) = s8 at *
  refine k_next (ws_cons (ws_if (wt_not (wt_bt (w_cons (w_comp (w_var rfl ⟨[D.bl v, D.bl v, D.bl u], some w, fun _ => some (.bl true), ?_, szl 3 (by decide), fun s' F' => decide_eq_true (lst_at (F'.at g8)), fun x hx s' F' => ?_, fun s9 F9 h9 => w_nil (r_all (bs := [true, true, true]) (lst_at h9) rfl ⟨true, rfl, ?_⟩)⟩)))))))
  · simp only [itOf, lst_at g8, Option.map_some]; rfl
  · obtain ⟨b, rfl⟩ : ∃ b, x = .bl b := by
      simp only [List.mem_cons, List.not_mem_nil, or_false] at hx
      rcases hx with rfl | rfl | rfl <;> exact ⟨_, rfl⟩
    exact w_turnC (env' := [some (.bl b)]) rfl (wi_nil (wp_t (w_isi (w_var rfl ⟨.b "bool", true, rfl, rfl, rfl, .refl _⟩))))
  have E9 := E8.trans F9
  have g9 := F9.at g8
  refine wp_nt (ws_nil (k_next (ws_cons (ws_if (wt_cm (w_var rfl (w_lst (w_cons (w_var rfl (w_cons (w_var rfl (w_cons (w_cm (w_call (w_cons (w_var rfl (w_cons (w_dnewN (w_nil ((value_ok (f := fP []) (n := n + 9) (fun d _ => rfl) 3 hd (gg0.trans rfl)).imp ?_))))))))))))))))))))
  rintro _ s10 ⟨rfl, F10⟩
  refine w_cst (r_eqi ?_)
  rw [iv_zero, hu]
  have E10 : Fr s9 s10 := (Fr.app _).trans F10
  refine w_nil ⟨szl 3 (by decide), r_neB3 (a := v) (b := v) (c := u) (lst_at ((Fr.app _).at (E10.at g9))) (lst_at (gg0.trans rfl)) ⟨_, rfl, wp_f (ws_nil (k_next (ws_nil ?_)))⟩⟩
  exact hQ _ _ _ _ ((E9.trans E10).trans (.app _))
end
section
variable {FF n k : Nat} {st : Sto}
theorem law_true {ns : List Int} (hx : lstOf st 0 = some (ns.map D.int)) (hF : 200 < FF) : Wr (C FF (n + 14) 33 [.loc 0] st) fun d _ => d = .bl true := by
 refine w_fn [some (.loc 0), none, none, none, none, none, none, none, none, none, none, none, none] (b := c_law) rfl rfl (by decide) rfl ?_
 unfold c_law
 refine ws_cons (ws_set (w_call (w_cons (w_call (w_cons (w_var rfl (w_cons (w_cst (w_nil ((cell_at (n := n + 12) (j := 0) hx).imp ?_))))))))))
 rintro _ z0 ⟨e0, c0, rfl⟩
 rw [e0]; clear e0 z0
 refine w_nil ((spelt (n := n + 12)).imp ?_)
 rintro _ s1 ⟨y, rfl, N1, F1⟩
 refine ⟨of_decide_eq_true rfl, k_next (ws_cons (ws_set (w_call (w_cons (w_var rfl (w_cons (w_op (w_call (w_cons (w_var rfl (w_cons (w_cst (w_nil ((cell_at (n := n + 12) (j := 0) (F1.lst hx)).imp ?_))))))))))))))⟩
 rintro _ z0 ⟨e0, c1, rfl⟩
 rw [e0]; clear e0 z0
 refine w_cst (r_fdiv (by decide) (w_nil ((atoms (n := n + 9) N1 (by omega)).imp ?_)))
 rintro _ s2 ⟨a, As, rfl, ha, A2, h1, h6, F2⟩
 have E2 := F1.trans F2
 refine ⟨of_decide_eq_true rfl, k_next (ws_cons (ws_set (w_call (w_cons (w_call (w_cons (w_var rfl (w_cons (w_cst (w_nil ((cell_at (n := n + 12) (j := 1) (E2.lst hx)).imp ?_)))))))))))⟩
 rintro _ z0 ⟨e0, c2, rfl⟩
 rw [e0]; clear e0 z0
 refine w_cons (w_cst (w_nil ((draws (n := n + 12) (M := 30) (by decide) (by omega)).imp ?_)))
 rintro _ s3 ⟨rfl, F3, I3⟩
 have hx3 : s2.length < s3.length := by obtain ⟨is, e⟩ := I3; exact (List.getElem?_eq_some_iff.mp e).1
 have ha2 := (List.getElem?_eq_some_iff.mp A2.1).1
 have E3 := E2.trans F3
 refine ⟨of_decide_eq_true rfl, k_next (ws_cons (ws_set (w_lst (w_nil ⟨szl 0 (by decide), of_decide_eq_true rfl, ?_⟩))))⟩
 have g4 : (s3 ++ [Cell.lst []])[s3.length]? = some (.lst []) := gg0.trans rfl
 have A4 := (A2.mono F3).mono (.app [Cell.lst []])
 have I4 := I3.mono (.app [Cell.lst []])
 have E4 : Fr st (s3 ++ [Cell.lst []]) := E3.trans (.app _)
 have ls := E2.len
 generalize s3 ++ [Cell.lst []] = s4 at *
 have lp := E3.len
 generalize s3.length = p at *
 generalize s2.length = x at *
 refine k_next (ws_cons (ws_forR (w_cons (w_call (w_cons (w_var rfl (w_cons (w_cst (w_nil ((taken (n := n + 12) (m := 9) I4 (by decide)).imp ?_))))))))))
 rintro _ s5 ⟨r, rfl, hr, I5, G5⟩
 refine w_nil ⟨rngL 0 r, rng_of _ (by omega), ?_⟩
 refine w_loop (fun i env s => (∃ k, env = [some (.loc 0), some (.loc y), some (.loc a), some (.loc x), some (.loc p), k, none, none, none, none, none, none, none]) ∧ Is s x ∧ Ats s a As ∧ (∃ P : List (D × Bool), s[p]? = some (.lst (P.map encS)) ∧ P.length = i ∧ ∀ q ∈ P, At q.1) ∧ Fr st s) (fun _ _ _ _ => rfl) ⟨⟨_, rfl⟩, I5, A4.mono' G5 (by omega), ⟨[], G5.at g4 (by omega), rfl, by simp⟩, FrO.fr E4 G5 (by omega)⟩ ?_ ?_
 · rintro j d hd env s ⟨⟨k, rfl⟩, I, A, ⟨P, hp, hl, hP⟩, F⟩
   have hj : j < r := by have := (List.getElem?_eq_some_iff.mp hd).1; rwa [rng_len] at this
   refine w_turn (env' := [some (.loc 0), some (.loc y), some (.loc a), some (.loc x), some (.loc p), some d, none, none, none, none, none, none, none]) rfl ?_
   refine ws_cons (ws_ex (w_mt (w_var rfl ⟨rdy_lst hp, w_cons (w_tup (w_cons (w_ix (w_var rfl (w_call (w_cons (w_var rfl (w_cons (w_bt (w_cons (w_var rfl (w_nil (r_lenL (lst_at A.1) (w_nil ((taken (n := n + 12) (m := As.length) I h1).imp ?_)))))))))))))))⟩)))
   rintro _ t1 ⟨r1, rfl, hr1, J1, G1⟩
   obtain ⟨z, hz, hat⟩ := atI_lt (xs := As) hr1
   have A1 := A.mono' G1 (by omega)
   refine r_ixL (lst_at A1.1) hat (w_cons (w_cm (w_call (w_cons (w_var rfl (w_cons (w_cst (w_nil ((taken (n := n + 12) (m := 2) J1 (by decide)).imp ?_)))))))))
   rintro _ t2 ⟨r2, rfl, hr2, J2, G2⟩
   have hp2 := G2.at (G1.at hp (by omega)) (by omega)
   refine w_cst (r_eqi (w_nil ⟨szl 2 (by decide), w_nil (r_append hp2 (Nat.lt_of_lt_of_le (by simp; omega : (P.map encS).length < 16000000) (by decide)) (k_next (ws_nil ⟨_, rfl, ⟨_, rfl⟩, ?_, ⟨?_, A.2⟩, ⟨P ++ [(z, decide ((r2 : Int) = 1))], ?_, by simp [hl], fun q hq => ?_⟩, ?_⟩)))⟩))
   · obtain ⟨is, e⟩ := J2
     exact ⟨is, by rw [List.getElem?_set_ne (by omega)]; exact e⟩
   · rw [List.getElem?_set_ne (by omega)]; exact (A1.mono' G2 (by omega)).1
   · rw [set_at hp2]; simp [encS]
   · rcases List.mem_append.mp hq with hq | hq
     · exact hP q hq
     · rw [List.mem_singleton.mp hq]; exact A.2 z hz
   · exact (FrO.fr (FrO.fr F G1 (by omega)) G2 (by omega)).set (by omega) _
 · rintro env s6 ⟨⟨k, rfl⟩, I, A, ⟨P, hp, hl, hP⟩, F⟩
   rw [rng_len] at hl
   refine k_next (ws_cons (ws_set (w_dnewN ⟨of_decide_eq_true rfl, ?_⟩)))
   have g7 : (s6 ++ [Cell.dcn []])[s6.length]? = some (.dcn []) := gg0.trans rfl
   have A7 := A.mono (.app [Cell.dcn []])
   have p7 : (s6 ++ [Cell.dcn []])[p]? = _ := (Fr.app _).at hp
   have E7 : Fr st (s6 ++ [Cell.dcn []]) := F.trans (.app _)
   have lq : p < s6.length := (List.getElem?_eq_some_iff.mp hp).1
   have la : a < s6.length := (List.getElem?_eq_some_iff.mp A.1).1
   have l6 := F.len
   generalize s6 ++ [Cell.dcn []] = s7 at *
   generalize s6.length = q at *
   refine k_next (ws_cons (ws_for (w_var rfl ⟨P.map encS, some p, ?_, ?_⟩)))
   · simp only [walkOf, Bool.false_eq_true, if_false, lst_at p7]; rfl
   refine w_loop (fun i env s => (∃ u v, env = [some (.loc 0), some (.loc y), some (.loc a), some (.loc x), some (.loc p), k, some (.loc q), u, v, none, none, none, none]) ∧ Ats s a As ∧ s[p]? = some (.lst (P.map encS)) ∧ (∃ K, s[q]? = some (.dcn K) ∧ K.length ≤ i ∧ Kn K (fP (P.take i))) ∧ Fr st s) (fun i env s h => decide_eq_true (lst_at h.2.2.1)) ⟨⟨_, _, rfl⟩, A7, p7, ⟨[], g7, by simp, fun d => by simp [dLook, fP]⟩, E7⟩ ?_ ?_
   · rintro j d hd env s ⟨⟨u, v, rfl⟩, A, hp, ⟨K, hq, hKl, hK⟩, F⟩
     rw [List.getElem?_map] at hd
     cases hx : P[j]? with
     | none => rw [hx] at hd; cases hd
     | some z =>
      rw [hx] at hd; cases hd
      have hj := (List.getElem?_eq_some_iff.mp hx).1
      have hz := hP z (List.mem_of_getElem? hx)
      refine w_turn (env' := [some (.loc 0), some (.loc y), some (.loc a), some (.loc x), some (.loc p), k, some (.loc q), some z.1, some (.bl z.2), none, none, none, none]) rfl ?_
      refine ws_cons (ws_ex (w_mt (w_var rfl ⟨rdy_dcn hq, w_cons (w_var rfl (w_cons (w_op (w_cst (w_bt (w_cons (w_var rfl (w_nil (r_intB (r_mulL (by decide) (w_nil ?_)))))))))))⟩)))
      rw [iv_mul]
      have hb : K.length < sizeLine := Nat.lt_of_lt_of_le (by omega : K.length < 16000000) (by decide)
      have et : P.take (j + 1) = P.take j ++ [(z.1, z.2)] := by rw [List.take_add_one, hx]; rfl
      cases lk : dLook K z.1 with
      | some d => exact r_sdS hq hz.keyN hb lk (k_next (ws_nil ⟨_, rfl, ⟨_, _, rfl⟩, A, hp, ⟨K, hq, by omega, by rw [et]; exact kn_same hK lk⟩, F⟩))
      | none =>
       refine r_sdN hq hz.keyN hb lk (k_next (ws_nil ⟨_, rfl, ⟨_, _, rfl⟩, ⟨?_, A.2⟩, ?_, ⟨_, set_at hq _, ?_, ?_⟩, F.set (by omega) _⟩))
       · rw [List.getElem?_set_ne (by omega)]; exact A.1
       · rw [List.getElem?_set_ne (by omega)]; exact hp
       · rw [put_new lk]; simp; omega
       · rw [put_new lk, et]; exact kn_get hK lk
   · rintro env s8 ⟨⟨u, v, rfl⟩, A, hp, ⟨K, hq, hKl, hK⟩, F⟩
     rw [List.length_map, List.take_length] at hK
     refine k_next (ws_cons (ws_for (w_sl (w_var rfl (w_icons (w_cst ⟨2, rfl, w_icons (w_cst ⟨20, rfl, w_inil (r_slL (lo := some 2) (hi := some 20) rfl (F.lst hx) ⟨cutD (ns.map D.int) (some 2) (some 20), some s8.length, ?_, ?_⟩)⟩)⟩))))))
     · simp only [walkOf, Bool.false_eq_true, if_false, lst_at (gg0.trans rfl : (s8 ++ [Cell.lst (cutD (ns.map D.int) (some 2) (some 20))])[s8.length]? = some (.lst _))]; rfl
     have g9 : (s8 ++ [Cell.lst (cutD (ns.map D.int) (some 2) (some 20))])[s8.length]? = some (.lst (cutD (ns.map D.int) (some 2) (some 20))) := gg0.trans rfl
     have A9 := A.mono (.app [Cell.lst (cutD (ns.map D.int) (some 2) (some 20))])
     have p9 : (s8 ++ [Cell.lst (cutD (ns.map D.int) (some 2) (some 20))])[p]? = _ := (Fr.app _).at hp
     have q9 : (s8 ++ [Cell.lst (cutD (ns.map D.int) (some 2) (some 20))])[q]? = _ := (Fr.app _).at hq
     have ci : ∀ d ∈ cutD (ns.map D.int) (some 2) (some 20), ∃ i, d = D.int i := by
      intro d hd
      unfold cutD at hd
      obtain ⟨i, _, rfl⟩ := List.mem_map.mp (List.mem_of_mem_drop (List.mem_of_mem_take hd))
      exact ⟨i, rfl⟩
     generalize cutD (ns.map D.int) (some 2) (some 20) = xs at *
     generalize s8 ++ [Cell.lst xs] = s9 at *
     refine w_loop (fun i env s => (∃ e9 e10 e11 e12, env = [some (.loc 0), some (.loc y), some (.loc a), some (.loc x), some (.loc p), k, some (.loc q), u, v, e9, e10, e11, e12]) ∧ Fr s9 s) (fun i env s h => decide_eq_true (lst_at (h.2.at g9))) ⟨⟨_, _, _, _, rfl⟩, .refl _⟩ ?_ ?_
     · rintro j d hd env s ⟨⟨e9, e10, e11, e12, rfl⟩, F9⟩
       obtain ⟨c, rfl⟩ := ci d (List.mem_of_getElem? hd)
       refine w_turn (env' := [some (.loc 0), some (.loc y), some (.loc a), some (.loc x), some (.loc p), k, some (.loc q), u, v, some (.int c), e10, e11, e12]) rfl ?_
       exact body_ok (n := n) (A9.mono F9) h1 (F9.at p9) hP (by omega) (F9.at q9) hK hF fun s e10 e11 e12 F' => ⟨_, rfl, ⟨_, _, _, _, rfl⟩, F9.trans F'⟩
     · rintro env s ⟨⟨e9, e10, e11, e12, rfl⟩, F9⟩
       exact k_next (ws_cons (ws_ret (w_cst (k_ret (kf_ret rfl)))))
end
abbrev calls : Nat := 14
theorem law_end : ∀ ns : List Int, ns.length ≤ 63 → ∃ FF st, runLaw FF calls [.loc 0] [.frz (ns.map D.int)] = .ok (.bl true) st := fun ns _ => by
 have h : lstOf [Cell.frz (ns.map D.int)] 0 = some (ns.map D.int) := rfl
 obtain ⟨d, s, e, rfl⟩ := law_true (FF := 300) (n := 0) h (by decide)
 exact ⟨300, s, e⟩
end My
open PySem PySem.W PyProof.Rows
set_option maxRecDepth 100000 in
set_option maxHeartbeats 0 in
theorem PySem.Challenge.cw_partproof_k56_false_by_a_path_holds : PySem.Challenge.rw_partproof_k56_false_by_a_path.Holds := by
 w_on; o_law; k_head; (case hw => w_witness2)
 k_fill
 refine My.walk (n := My.calls) (l := PySem.Challenge.rw_partproof_k56_false_by_a_path) rfl rfl rfl ⟨rfl, by decide, by decide⟩ (fun w h Y => PySem.W.kIn_of Y) ?lawTop ?lawEnd
 case lawTop =>
  intro w mg h KX G
  refine' My.top_mk w KX G ?ac0 ?ac1 ?a1 ?l1 ?c1 ?k1 ?a2 ?l2 ?c2 ?k2 ?a3 ?i3 ?l3 ?c3 ?k3 ?a4 ?i4 ?l4 ?c4 ?k4 ?a5 ?i5 ?l5 ?c5 ?k5 ?a6 ?i6 ?l6 ?c6 ?k6 ?a7 ?i7 ?l7 ?c7 ?k7 ?a8 ?i8 ?l8 ?c8 ?k8 ?a12 ?i12 ?l12 ?c12 ?k12 ?a16 ?l16 ?c16 ?k16 ?a17 ?l17 ?c17 ?k17 ?a18 ?l18 ?c18 ?k18 ?a19 ?l19 ?c19 ?k19 ?a20 ?l20 ?c20 ?k20 ?a21 ?l21 ?c21 ?k21 ?a22 ?l22 ?c22 ?k22 ?a23 ?l23 ?c23 ?k23 ?a25 ?l25 ?c25 ?k25 ?a26 ?l26 ?c26 ?k26 ?a30 ?l30 ?c30 ?k30 ?a31 ?l31 ?c31 ?k31 ?a32 ?l32 ?c32 ?k32 ?a33 ?l33 ?c33 ?k33 ?gg_ATOM_WORDS ?gl_ATOM_WORDS ?pg0 ?hd0 ?po0 ?sa0 ?pg1 ?hd1 ?po1 ?sa1 ?na_Numbering_numbers ?na_Numbering_terms ?na_Tellings_numbering ?na_Tellings_signs ?na_Tellings_trail ?mk0 ?kc0 ?mk1 ?kc1 ?z_all ?z_bool ?z_int ?z_isinstance ?z_len ?z_max ?z_min ?z_range ?z_tuple
  (case ac0 => k_is)
  (case ac1 => k_is)
  (case a1 => k_is)
  (case l1 => k_is)
  (case c1 => k_is)
  (case k1 => k_is)
  (case a2 => k_is)
  (case l2 => k_is)
  (case c2 => k_is)
  (case k2 => k_is)
  (case a3 => k_is)
  (case i3 => k_is)
  (case l3 => k_is)
  (case c3 => k_is)
  (case k3 => k_is)
  (case a4 => k_is)
  (case i4 => k_is)
  (case l4 => k_is)
  (case c4 => k_is)
  (case k4 => k_is)
  (case a5 => k_is)
  (case i5 => k_is)
  (case l5 => k_is)
  (case c5 => k_is)
  (case k5 => k_is)
  (case a6 => k_is)
  (case i6 => k_is)
  (case l6 => k_is)
  (case c6 => k_is)
  (case k6 => k_is)
  (case a7 => k_is)
  (case i7 => k_is)
  (case l7 => k_is)
  (case c7 => k_is)
  (case k7 => k_is)
  (case a8 => k_is)
  (case i8 => k_is)
  (case l8 => k_is)
  (case c8 => k_is)
  (case k8 => k_is)
  (case a12 => k_is)
  (case i12 => k_is)
  (case l12 => k_is)
  (case c12 => k_is)
  (case k12 => k_is)
  (case a16 => k_is)
  (case l16 => k_is)
  (case c16 => k_is)
  (case k16 => k_is)
  (case a17 => k_is)
  (case l17 => k_is)
  (case c17 => k_is)
  (case k17 => k_is)
  (case a18 => k_is)
  (case l18 => k_is)
  (case c18 => k_is)
  (case k18 => k_is)
  (case a19 => k_is)
  (case l19 => k_is)
  (case c19 => k_is)
  (case k19 => k_is)
  (case a20 => k_is)
  (case l20 => k_is)
  (case c20 => k_is)
  (case k20 => k_is)
  (case a21 => k_is)
  (case l21 => k_is)
  (case c21 => k_is)
  (case k21 => k_is)
  (case a22 => k_is)
  (case l22 => k_is)
  (case c22 => k_is)
  (case k22 => k_is)
  (case a23 => k_is)
  (case l23 => k_is)
  (case c23 => k_is)
  (case k23 => k_is)
  (case a25 => k_is)
  (case l25 => k_is)
  (case c25 => k_is)
  (case k25 => k_is)
  (case a26 => k_is)
  (case l26 => k_is)
  (case c26 => k_is)
  (case k26 => k_is)
  (case a30 => k_is)
  (case l30 => k_is)
  (case c30 => k_is)
  (case k30 => k_is)
  (case a31 => k_is)
  (case l31 => k_is)
  (case c31 => k_is)
  (case k31 => k_is)
  (case a32 => k_is)
  (case l32 => k_is)
  (case c32 => k_is)
  (case k32 => k_is)
  (case a33 => k_is)
  (case l33 => k_is)
  (case c33 => k_is)
  (case k33 => k_is)
  (case gg_ATOM_WORDS => k_is)
  (case gl_ATOM_WORDS => k_is)
  (case pg0 => k_is)
  (case hd0 => k_is)
  (case po0 => k_is)
  (case sa0 => k_is)
  (case pg1 => k_is)
  (case hd1 => k_is)
  (case po1 => k_is)
  (case sa1 => k_is)
  (case na_Numbering_numbers => k_is)
  (case na_Numbering_terms => k_is)
  (case na_Tellings_numbering => k_is)
  (case na_Tellings_signs => k_is)
  (case na_Tellings_trail => k_is)
  (case mk0 => k_is)
  (case kc0 => k_is)
  (case mk1 => k_is)
  (case kc1 => k_is)
  (case z_all => k_is)
  (case z_bool => k_is)
  (case z_int => k_is)
  (case z_isinstance => k_is)
  (case z_len => k_is)
  (case z_max => k_is)
  (case z_min => k_is)
  (case z_range => k_is)
  (case z_tuple => k_is)
 case lawEnd => exact My.law_end
