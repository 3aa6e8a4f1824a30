import PyProof.Rows.All
import Wide.All
import OpenK.AllK
import Wide.FinOn
import Lean
import PyProof.EqAt
import PyProof.EqKinds
import PyProof.TupleCall
import PyProof.NsDelKeeps
import PyProof.DictWalks
import KE.KEqDict
import KE.KDictLaws
import KE.KDictList
import PyProof.Rows.SetFrom
import PyProof.WalksEnum
import PyProof.LayNew
import PyProof.Rows.EnumRows
import PySem.Challenge.RW_partproof_k33_classes
set_option Elab.async false
set_option linter.all false
set_option maxRecDepth 100000
set_option maxHeartbeats 4000000
noncomputable section
namespace L2
open PySem PySem.Spec PyProof.Rows
abbrev Key := Sum Int Str
noncomputable def keyIs : Key → Value → Bool
 | .inl k, v => Value.isInt k v
 | .inr x, v => Value.isStrOf x v
noncomputable def keyH (w : World) : Key → Int
 | .inl k => hashInt k
 | .inr x => hashStr w x
theorem keyIs_shape : ∀ {k : Key} {v : Value}, keyIs k v = true → (∃ i t, k = Sum.inl i ∧ v = Value.int i t) ∨ (∃ x t, k = Sum.inr x ∧ v = Value.str x t)
 | .inl i, v, h => by
  obtain ⟨t, e⟩ := Value.isInt_shape (k := i) (v := v) h
  exact .inl ⟨i, t, rfl, e⟩
 | .inr x, v, h => by
  obtain ⟨t, e⟩ := Value.isStrOf_shape (x := x) (v := v) h
  exact .inr ⟨x, t, rfl, e⟩
theorem keyIs_int (i : Int) (t : Tok) : keyIs (.inl i) (.int i t) = true := by simp [keyIs, Value.isInt]
theorem keyIs_str (x : Str) (t : Tok) : keyIs (.inr x) (.str x t) = true := by simp [keyIs, Value.isStrOf]
theorem key_ll (a b : Int) : decide ((Sum.inl a : Key) = Sum.inl b) = (a == b) := by
 by_cases e : a = b
 · subst e; simp
 · have h : ¬ (Sum.inl a : Key) = Sum.inl b := fun q => e (Sum.inl.inj q)
   rw [decide_eq_false h]
   exact (beq_eq_false_iff_ne.mpr e).symm
theorem key_rr (a b : Str) : decide ((Sum.inr a : Key) = Sum.inr b) = decide (a = b) := by
 by_cases e : a = b
 · subst e; simp
 · have h : ¬ (Sum.inr a : Key) = Sum.inr b := fun q => e (Sum.inr.inj q)
   rw [decide_eq_false h, decide_eq_false e]
theorem key_lr (a : Int) (b : Str) : decide ((Sum.inl a : Key) = Sum.inr b) = false := decide_eq_false (fun q => nomatch q)
theorem key_rl (a : Str) (b : Int) : decide ((Sum.inr a : Key) = Sum.inl b) = false := decide_eq_false (fun q => nomatch q)
noncomputable def mixKind (prog : Program) (w : World) : PySem.KeyKind prog w Key where
 is := keyIs
 hash := keyH w
 inj := fun v a b ha hb => by
  rcases keyIs_shape ha with ⟨i, t, rfl, rfl⟩ | ⟨x, t, rfl, rfl⟩
  · rcases keyIs_shape hb with ⟨j, u, rfl, e⟩ | ⟨y, u, rfl, e⟩
    · injection e with e1 _; rw [e1]
    · exact nomatch e
  · rcases keyIs_shape hb with ⟨j, u, rfl, e⟩ | ⟨y, u, rfl, e⟩
    · exact nomatch e
    · injection e with e1 _; rw [e1]
 byValue := fun k v h => by
  rcases keyIs_shape h with ⟨i, t, rfl, rfl⟩ | ⟨x, t, rfl, rfl⟩ <;> rfl
 pyHash := fun hv h => by
  rcases keyIs_shape hv with ⟨i, t, rfl, rfl⟩ | ⟨x, t, rfl, rfl⟩
  · exact wpAny_pyHash_int h
  · exact wpAny_pyHash_str h
 eqBool := fun hu hv h => by
  rcases keyIs_shape hu with ⟨i, t, rfl, rfl⟩ | ⟨x, t, rfl, rfl⟩
  · rcases keyIs_shape hv with ⟨j, u, rfl, rfl⟩ | ⟨y, u, rfl, rfl⟩
    · rw [key_ll] at h; exact wpAny_eqBool_int h
    · rw [key_lr] at h; exact SeqAt.EqAt.int_str i t y u _ _ _ _ h
  · rcases keyIs_shape hv with ⟨j, u, rfl, rfl⟩ | ⟨y, u, rfl, rfl⟩
    · rw [key_rl] at h; exact SeqAt.EqAt.str_int x t j u _ _ _ _ h
    · rw [key_rr] at h; exact wpAny_eqBool_str h
 «strs» := fun k x t v h => by
  rcases keyIs_shape h with ⟨i, u, rfl, e⟩ | ⟨y, u, rfl, e⟩
  · exact nomatch e
  · injection e with e1 _
    subst e1
    cases v <;> rfl
theorem mixKind_int (prog : Program) (w : World) (i : Int) (t : Tok) : (mixKind prog w).is (.inl i) (.int i t) = true := keyIs_int i t
theorem mixKind_str (prog : Program) (w : World) (x : Str) (t : Tok) : (mixKind prog w).is (.inr x) (.str x t) = true := keyIs_str x t
end L2
namespace L2
open PySem PySem.Spec PyProof.Rows
inductive V where
 | non | bl (b : Bool) | int (i : Int) | str (x : Str) | byt (b : Array UInt8) | flt (b : UInt64) | ref (a : Addr) | ty (n : String)
 deriving DecidableEq
def RelV : V → Value → Prop
 | .non, u => u = Value.none
 | .bl b, u => u = Value.bool b
 | .int i, u => ∃ t, u = Value.int i t
 | .str x, u => ∃ t, u = Value.str x t
 | .byt b, u => ∃ t, u = Value.bytes b t
 | .flt b, u => ∃ t, u = Value.float b t
 | .ref a, u => u = Value.ref a
 | .ty n, u => u = Value.type n
abbrev Vals : List V → List Value → Prop := Paired RelV
theorem Vals.length {xs : List V} {us : List Value} (r : Vals xs us) : xs.length = us.length := Paired.length r
theorem Vals.get : ∀ {xs : List V} {us : List Value} {i : Nat} {x : V}, Vals xs us → xs[i]? = some x → ∃ u, us[i]? = some u ∧ RelV x u
 | _, _, _, _, .nil, e => by simp at e
 | _, _, 0, _, .cons r _, e => by simp at e; subst e; exact ⟨_, rfl, r⟩
 | _, _, i + 1, x, .cons _ t, e => by
  obtain ⟨u, h1, h2⟩ := Vals.get (i := i) (x := x) t (by simpa using e)
  exact ⟨u, by simpa using h1, h2⟩
theorem Vals.set {x : V} {u : Value} (r : RelV x u) : ∀ {xs : List V} {us : List Value} (i : Nat), Vals xs us → Vals (xs.set i x) (us.set i u)
 | _, _, _, .nil => .nil
 | _, _, 0, .cons _ t => .cons r t
 | _, _, i + 1, .cons q t => .cons q (Vals.set r i t)
theorem Vals.append : ∀ {xs ys : List V} {us ws : List Value}, Vals xs us → Vals ys ws → Vals (xs ++ ys) (us ++ ws)
 | _, _, _, _, .nil, s => s
 | _, _, _, _, .cons r t, s => .cons r (Vals.append t s)
theorem Vals.take : ∀ {xs : List V} {us : List Value} (n : Nat), Vals xs us → Vals (xs.take n) (us.take n)
 | _, _, 0, _ => .nil
 | _, _, _ + 1, .nil => .nil
 | _, _, n + 1, .cons r t => .cons r (Vals.take n t)
theorem Vals.drop : ∀ {xs : List V} {us : List Value} (n : Nat), Vals xs us → Vals (xs.drop n) (us.drop n)
 | _, _, 0, r => r
 | _, _, _ + 1, .nil => .nil
 | _, _, n + 1, .cons _ t => Vals.drop n t
def RelO : Option V → Option Value → Prop
 | some v, some u => RelV v u
 | none, none => True
 | _, _ => False
def KV {κ : Type} : List (κ × V) → List (κ × Value) → Prop := Paired fun (p : κ × V) (q : κ × Value) => p.1 = q.1 ∧ RelV p.2 q.2
noncomputable def kV : Key → V
 | .inl i => .int i
 | .inr x => .str x
inductive HO where
 | lst (xs : List V)
 | tup (xs : List V)
 | dK (kvs : List (Key × V)) | dT (kvs : List (List Key × V))
 | set (S : Int → Bool) (n : Nat)
 | ins (C dx : Addr) (fs : List (Str × V))
 | own (x : Addr)
 | xd (fs : List (Str × V))
 | met (f x : Addr)
 | rng (lo hi : Int)
 | frz (o : Obj) (u : HO)
 | tbl (ps : Array Value)
 | ext (φ : Heap → Prop)
abbrev Hp := Addr → Option HO
noncomputable def upd (H : Hp) (a : Addr) (o : HO) : Hp := fun b => if b = a then some o else H b
theorem upd_same {H : Hp} {a : Addr} {o : HO} : upd H a o a = some o := by unfold upd; rw [if_pos rfl]
theorem upd_ne {H : Hp} {a b : Addr} {o : HO} (h : b ≠ a) : upd H a o b = H b := by unfold upd; rw [if_neg h]
theorem ne_of {H : Hp} {a b : Addr} {o u : HO} (h : H a = some o) (h' : H b = some u) (d : o ≠ u) : a ≠ b := by
 intro e; subst e; rw [h] at h'; exact d (Option.some.inj h')
theorem ne_of_none {H : Hp} {a b : Addr} {o : HO} (h : H a = some o) (h' : H b = none) : a ≠ b := by
 intro e; subst e; rw [h] at h'; cases h'
section
variable (P : Program) (w : World)
def ObjOk (H : Hp) (h : Heap) (a : Addr) : HO → Prop
  | .lst xs => xs.length ≤ sizeLine ∧ ∃ (its : List Value) (n : Nat), Vals xs its ∧ h.get? a = some { cls := .type "list", data := .seq its.toArray n }
  | .tup xs => xs.length ≤ sizeLine ∧ ∃ its : List Value, Vals xs its ∧ IsTup h a its.toArray
  | .dK kvs => kvs.length ≤ sizeLine ∧ (a == sysModules) = false ∧ ∃ vs, KV kvs vs ∧ h.DictOf (mixKind P w) a vs
  | .dT kvs => kvs.length ≤ sizeLine ∧ (a == sysModules) = false ∧ ∃ xs : List (List Key × Addr × Value),
      Paired (fun (p : List Key × V) (q : List Key × Addr × Value) => p.1 = q.1 ∧ H q.2.1 = some (.tup (p.1.map kV)) ∧ RelV p.2 q.2.2) kvs xs ∧
      ∃ o es ep, h.get? a = some o ∧ o.ExactDict ∧ o.data = .dict es ep ∧ es.toList = xs.map (entryOfKey (tupleKind (mixKind P w))) ∧ (xs.map (·.1)).Nodup
  | .set S n => h.SetOf (intKind P w) a S n
  | .ins C dx fs => H dx = some (.own a) ∧ fs.length ≤ 1000 ∧ dx ≠ a ∧ h.get? a = some (PySem.W.instObj C dx) ∧
      ∃ mA, h.Ns1 dx mA ∧ (∀ f, RelO (fs.lookup f) (mA f)) ∧ PySem.Within mA (fs.map (·.1))
  | .own _ => ∃ o, h.get? a = some o
  | .xd fs => ∃ mA, h.Ns1 a mA ∧ ∀ f, RelO (fs.lookup f) (mA f)
  | .rng lo hi => ∃ t u v, h.get? a = some { cls := .type "range", data := .fields #[.int lo t, .int hi u, .int 1 v] }
  | .frz o u => h.get? a = some o ∧ ObjOk H h a u
  | .tbl ps => h.get? a = some { cls := .none, data := .fields ps }
  | .met f x => h.get? a = some (PySem.W.methodObj (.ref f) (.ref x))
  | .ext φ => φ h ∧ (∃ o, h.get? a = some o) ∧ ∀ h1 h2 : Heap, φ h1 → (∀ o, h1.get? a = some o → h2.get? a = some o) → φ h2
def HOk (H : Hp) (h : Heap) : Prop := ∀ a o, H a = some o → ObjOk P w H h a o
end
section
variable {P : Program} {w : World} {H H' : Hp} {h h' : Heap} {a : Addr} {o : HO}
theorem ObjOk.lt (x : ObjOk P w H h a o) : a < h.objs.size := by
 cases o with
 | lst xs => obtain ⟨_, _, _, _, e⟩ := x; exact Heap.lt_size e
 | tup xs => obtain ⟨_, _, _, p⟩ := x; exact p.lt
 | dK kvs => obtain ⟨_, _, _, _, o, _, _, e, _⟩ := x; exact Heap.lt_size e
 | dT kvs => obtain ⟨_, _, _, _, o, _, _, e, _⟩ := x; exact Heap.lt_size e
 | set S n => obtain ⟨o, _, _, _, e, _⟩ := x; exact Heap.lt_size e
 | ins C dx fs => obtain ⟨_, _, _, e, _⟩ := x; exact Heap.lt_size e
 | own y => obtain ⟨_, e⟩ := x; exact Heap.lt_size e
 | xd fs => obtain ⟨_, ⟨_, _, _, e, _⟩, _⟩ := x; exact Heap.lt_size e
 | rng lo hi => obtain ⟨_, _, _, e⟩ := x; exact Heap.lt_size e
 | frz ob u => obtain ⟨e, _⟩ := x; exact Heap.lt_size e
 | tbl ps => exact Heap.lt_size (show h.get? a = some _ from x)
 | met f y => exact Heap.lt_size (show h.get? a = some _ from x)
 | ext φ => obtain ⟨_, ⟨_, e⟩, _⟩ := x; exact Heap.lt_size e
theorem Paired.mapP {α β : Type} {F G : α → β → Prop} : ∀ {l₁ : List α} {l₂ : List β}, Paired F l₁ l₂ → (∀ a b, F a b → G a b) → Paired G l₁ l₂
 | _, _, .nil, _ => .nil
 | _, _, .cons r t, f => .cons (f _ _ r) (Paired.mapP t f)
theorem ObjOk.stay (x : ObjOk P w H h a o) (k : ∀ b u, (b = a ∨ H b = some (.own a)) → h.get? b = some u → h'.get? b = some u)
    (ho : ∀ b, H b = some (.own a) → H' b = some (.own a)) (ht : ∀ b xs, H b = some (.tup xs) → H' b = some (.tup xs)) : ObjOk P w H' h' a o := by
  induction o with
  | lst xs => obtain ⟨z, its, n, r, e⟩ := x; exact ⟨z, its, n, r, k _ _ (.inl rfl) e⟩
  | tup xs => obtain ⟨z, its, r, ob, e, c⟩ := x; exact ⟨z, its, r, ob, k _ _ (.inl rfl) e, c⟩
  | dK kvs => obtain ⟨z, y, vs, r, ob, es, ep, e, c⟩ := x; exact ⟨z, y, vs, r, ob, es, ep, k _ _ (.inl rfl) e, c⟩
  | dT kvs =>
    obtain ⟨z, y, xs, r, ob, es, ep, e, c⟩ := x
    exact ⟨z, y, xs, Paired.mapP r fun p q z => ⟨z.1, ht _ _ z.2.1, z.2.2⟩, ob, es, ep, k _ _ (.inl rfl) e, c⟩
  | set S n => obtain ⟨ob, es, ep, t, e, c⟩ := x; exact ⟨ob, es, ep, t, k _ _ (.inl rfl) e, c⟩
  | ins C dx fs =>
    obtain ⟨d, z, ne, e, mA, ⟨od, es, ep, e2, c⟩, r⟩ := x
    exact ⟨ho _ d, z, ne, k _ _ (.inl rfl) e, mA, ⟨od, es, ep, k _ _ (.inr d) e2, c⟩, r⟩
  | own y => obtain ⟨ob, e⟩ := x; exact ⟨ob, k _ _ (.inl rfl) e⟩
  | xd fs => obtain ⟨mA, ⟨od, es, ep, e, c⟩, r⟩ := x; exact ⟨mA, ⟨od, es, ep, k _ _ (.inl rfl) e, c⟩, r⟩
  | rng lo hi => obtain ⟨t, u, v, e⟩ := x; exact ⟨t, u, v, k _ _ (.inl rfl) e⟩
  | frz ob u ih => obtain ⟨e, q⟩ := x; exact ⟨k _ _ (.inl rfl) e, ih q⟩
  | tbl ps =>
    have e : h.get? a = some { cls := .none, data := .fields ps } := x
    show h'.get? a = some { cls := .none, data := .fields ps }
    exact k a _ (.inl rfl) e
  | met f y =>
    have e : h.get? a = some (PySem.W.methodObj (.ref f) (.ref y)) := x
    show h'.get? a = some (PySem.W.methodObj (.ref f) (.ref y))
    exact k a _ (.inl rfl) e
  | ext φ => obtain ⟨p, ⟨o, e⟩, st⟩ := x; exact ⟨st _ _ p fun o q => k _ _ (.inl rfl) q, ⟨o, k _ _ (.inl rfl) e⟩, st⟩
theorem HOk.lt (x : HOk P w H h) (e : H a = some o) : a < h.objs.size := (x a o e).lt
theorem HOk.fresh (x : HOk P w H h) (e : h.objs.size ≤ a) : H a = none := by
 cases q : H a with
 | none => rfl
 | some u => exact absurd (Nat.lt_of_lt_of_le (x.lt q) e) (Nat.lt_irrefl _)
theorem HOk.kept (x : HOk P w H h) (k : ∀ b u, h.get? b = some u → h'.get? b = some u) : HOk P w H h' := fun a o e =>
 (x a o e).stay (fun b u _ q => k b u q) (fun _ q => q) fun _ _ q => q
theorem HOk.laid (x : HOk P w H h) (k : ∀ b u, h.get? b = some u → h'.get? b = some u) (hp : h.objs.size ≤ a) (new : ObjOk P w (upd H a o) h' a o) : HOk P w (upd H a o) h' := fun b u e => by
 have hn := x.fresh hp
 by_cases hb : b = a
 · subst hb; rw [upd_same] at e; cases e; exact new
 · rw [upd_ne hb] at e
   exact (x b u e).stay (fun c v _ q => k c v q) (fun c q => by rw [upd_ne (ne_of_none q hn)]; exact q) fun c xs q => by rw [upd_ne (ne_of_none q hn)]; exact q
end
def Rd (H : Hp) (a : Addr) (u : HO) : Prop := H a = some u ∨ ∃ o, H a = some (.frz o u)
theorem Rd.ok {P : Program} {w : World} {H : Hp} {h : Heap} {a : Addr} {u : HO} (r : Rd H a u) (x : HOk P w H h) : ObjOk P w H h a u := by
 rcases r with r | ⟨o, r⟩
 · exact x a u r
 · obtain ⟨_, q⟩ := x a _ r
   exact q
def Mut : Option HO → Prop
 | some (.lst _) => True
 | some (.dK _) => True
 | some (.dT _) => True
 | some (.set _ _) => True
 | some (.ins _ _ _) => True
 | some (.ext _) => True
 | _ => False
section
variable {P : Program} {w : World} {H : Hp} {h h' : Heap} {x e : Addr} {o' : HO}
theorem HOk.write (ok : HOk P w H h) (mu : Mut (H x)) (he : e = x ∨ H e = some (.own x)) (k : ∀ b u, b ≠ e → h.get? b = some u → h'.get? b = some u) (heo : ∃ u, h'.get? e = some u)
    (new : ObjOk P w (upd H x o') h' x o') : HOk P w (upd H x o') h' := fun b u q => by
  have nown : ∀ c y, H c = some (.own y) → c ≠ x := fun c y r z => by subst z; rw [r] at mu; exact mu
  have ntup : ∀ c xs, H c = some (.tup xs) → c ≠ x := fun c xs r z => by subst z; rw [r] at mu; exact mu
  by_cases hb : b = x
  · subst hb; rw [upd_same] at q; cases q; exact new
  · rw [upd_ne hb] at q
    by_cases hbe : b = e
    · have q' : H b = some (.own x) := by
        rcases he with z | z
        · exact absurd (hbe.trans z) hb
        · rw [hbe]; exact z
      rw [q] at q'; cases q'
      obtain ⟨v, hv⟩ := heo
      exact ⟨v, by rw [hbe]; exact hv⟩
    · refine (ok b u q).stay (fun c v hc r => k c v ?_ r) (fun c r => by rw [upd_ne (nown c b r)]; exact r) fun c xs r => by rw [upd_ne (ntup c xs r)]; exact r
      rcases hc with rfl | hc
      · exact hbe
      · rintro rfl
        rcases he with z | z
        · exact nown c b hc z
        · rw [hc] at z; cases z; exact hb rfl
end
structure Un (fs ex : List Addr) (H H' : Hp) (h h' : Heap) : Prop where
 keep : ∀ b o, h.get? b = some o → H b = none → b ∉ fs → b ∉ ex → h'.get? b = some o
 slot : ∀ b o, h.get? b = some o → H b = none → b ∈ fs → b ∉ ex → ∃ sl, h'.get? b = some { o with slots := sl }
 free : ∀ b o, h.get? b = some o → H b = none → b ∉ ex → H' b = none
 there : ∀ b o, h.get? b = some o → b ∉ ex → ∃ o', h'.get? b = some o'
 tups : ∀ b xs, H b = some (.tup xs) → H' b = some (.tup xs)
 frzs : ∀ b o u, H b = some (.frz o u) → H' b = some (.frz o u)
 tbls : ∀ b ps, H b = some (.tbl ps) → ∃ more, H' b = some (.tbl (ps ++ more))
section
variable {fs fs' ex ex' : List Addr} {H H1 H2 : Hp} {h h1 h2 h' : Heap} {a x e : Addr} {o : HO}
theorem Un.any (u : Un fs ex H H1 h h1) {b : Addr} {ob : Obj} (q : h.get? b = some ob) (n : H b = none) (hx : b ∉ ex) : ∃ sl, h1.get? b = some { ob with slots := sl } := by
 by_cases hb : b ∈ fs
 · exact u.slot b ob q n hb hx
 · exact ⟨ob.slots, u.keep b ob q n hb hx⟩
theorem Un.trans (a : Un fs ex H H1 h h1) (b : Un fs ex H1 H2 h1 h2) : Un fs ex H H2 h h2 where
 keep := fun c ob q n hc hx => b.keep c ob (a.keep c ob q n hc hx) (a.free c ob q n hx) hc hx
 slot := fun c ob q n hc hx => by
  obtain ⟨sl, e1⟩ := a.slot c ob q n hc hx
  obtain ⟨sl', e2⟩ := b.slot c _ e1 (a.free c ob q n hx) hc hx
  exact ⟨sl', e2⟩
 free := fun c ob q n hx => by
  obtain ⟨o', e1⟩ := a.there c ob q hx
  exact b.free c o' e1 (a.free c ob q n hx) hx
 there := fun c ob q hx => by
  obtain ⟨o', e1⟩ := a.there c ob q hx
  exact b.there c o' e1 hx
 tups := fun c xs q => b.tups c xs (a.tups c xs q)
 frzs := fun c ob xs q => b.frzs c ob xs (a.frzs c ob xs q)
 tbls := fun c ps q => by
  obtain ⟨m1, e1⟩ := a.tbls c ps q
  obtain ⟨m2, e2⟩ := b.tbls c _ e1
  exact ⟨m1 ++ m2, by rw [e2, Array.append_assoc]⟩
theorem Un.kept (k : ∀ b u, h.get? b = some u → h'.get? b = some u) : Un fs ex H H h h' :=
 ⟨fun b ob q _ _ _ => k b ob q, fun b ob q _ _ _ => ⟨ob.slots, k b ob q⟩, fun _ _ _ n _ => n, fun b ob q _ => ⟨ob, k b ob q⟩, fun _ _ q => q, fun _ _ _ q => q, fun _ ps q => ⟨#[], by rw [q]; simp⟩⟩
theorem Un.refl : Un fs ex H H h h := Un.kept fun _ _ q => q
theorem Un.laid (k : ∀ b u, h.get? b = some u → h'.get? b = some u) (hp : h.objs.size ≤ a) (hn : H a = none) : Un fs ex H (upd H a o) h h' where
 keep := fun b u q _ _ _ => k b u q
 slot := fun b u q _ _ _ => ⟨u.slots, k b u q⟩
 free := fun b u q n _ => by rw [upd_ne (Nat.ne_of_lt (Nat.lt_of_lt_of_le (Heap.lt_size q) hp))]; exact n
 there := fun b u q _ => ⟨u, k b u q⟩
 tups := fun b xs q => by rw [upd_ne (ne_of_none q hn)]; exact q
 frzs := fun b u xs q => by rw [upd_ne (ne_of_none q hn)]; exact q
 tbls := fun b ps q => ⟨#[], by rw [upd_ne (ne_of_none q hn), q]; simp⟩
theorem Un.write (mu : Mut (H x)) (he : e = x ∨ H e = some (.own x)) (k : ∀ b u, b ≠ e → h.get? b = some u → h'.get? b = some u) (heo : ∃ u, h'.get? e = some u) : Un fs ex H (upd H x o) h h' := by
 have hx : ∀ b, H b = none → b ≠ x := fun b n z => by subst z; rw [n] at mu; exact mu
 have hb : ∀ b, H b = none → b ≠ e := fun b n z => by
  subst z
  rcases he with r | r
  · exact hx b n r
  · rw [n] at r; cases r
 have hm : ∀ b u, H b = some u → ¬ Mut (some u) → b ≠ x := fun b u q nm z => by subst z; rw [q] at mu; exact nm mu
 refine ⟨fun b u q n _ _ => k b u (hb b n) q, fun b u q n _ _ => ⟨u.slots, k b u (hb b n) q⟩, fun b u q n _ => by rw [upd_ne (hx b n)]; exact n, fun b u q _ => ?_,
  fun b xs q => by rw [upd_ne (hm b _ q fun z => z)]; exact q, fun b u xs q => by rw [upd_ne (hm b _ q fun z => z)]; exact q, fun b ps q => ⟨#[], by rw [upd_ne (hm b _ q fun z => z), q]; simp⟩⟩
 by_cases hbe : b = e
 · subst hbe; exact heo
 · exact ⟨u, k b u hbe q⟩
end
noncomputable def trk (h : Heap) (H : Hp) : List Addr := (List.range h.objs.size).filter fun a => (H a).isSome
noncomputable def hidT (h : Heap) (H : Hp) : Heap := PySem.W.hideAll h (trk h H)
theorem hidT_size (h : Heap) (H : Hp) : (hidT h H).objs.size = h.objs.size := PySem.W.hideAll_size _ _
theorem hidT_get {h : Heap} {H : Hp} {b : Addr} {o : Obj} (e : h.get? b = some o) (n : H b = none) : (hidT h H).get? b = some o :=
 PySem.W.hideAll_get _ e fun hm => by
  have q : (H b).isSome = true := (List.mem_filter.mp hm).2
  rw [n] at q; simp at q
theorem of_hidT {h : Heap} {H : Hp} {b : Addr} {o : Obj} (e : (hidT h H).get? b = some o) : h.get? b = some o ∧ H b = none := by
 have e' : h.get? b = some o := PySem.W.of_hideAll (trk h H) e
 refine ⟨e', ?_⟩
 cases q : H b with
 | none => rfl
 | some x =>
  have hm : b ∈ trk h H := List.mem_filter.mpr ⟨List.mem_range.mpr (Heap.lt_size e'), by simp [q]⟩
  have z : (hidT h H).get? b = none := PySem.W.hideAll_none (trk h H) hm
  rw [z] at e; cases e
noncomputable def allNews (g h : Heap) (L : Addr) : List (Addr × Obj) := (List.range h.objs.size).filterMap fun a => if a = L ∨ (g.get? a).isSome = true then none else (h.get? a).map fun o => (a, o)
noncomputable def rest (g h : Heap) (L d : Addr) : List (Addr × Obj) := (allNews g h L).filter fun p => decide (p.1 ≠ d)
end L2
namespace L2
open PySem PySem.Spec PyProof.Rows
structure Mod (K : PySem.W.Frag) (mg : Str → Option Value) (base : Heap) : Prop where
 kin : K.In base
 glob : base.Ns mainGlobals mg
 blt : ∃ mb, base.Ns builtinsNs mb ∧ ∀ x : Str, x ≠ "__name__" → mb x = bootBuiltins x
 nolimit : base.NoLimit
structure Cx where
 prog : Program
 w : World
 K : PySem.W.Frag
 mg : Str → Option Value
 base : Heap
 A : Around
 N : List Str
 s₀ : Shared
 H₀ : Hp
 env : Env
 outer : List Env
 stack : List Env
 ex : List Addr
 fn : Str → Bool
 calm : Bool
 pn : List (Addr × Obj)
 xe : Value → Shared → Prop
noncomputable def frs (l : List Env) : List Addr := l.filterMap (·.frame)
abbrev Cx.fs (X : Cx) : List Addr := frs X.outer
def Vis (sc : Scope) (x : Str) : Prop := sc.names.lookup x = some .local ∨ sc.names.lookup x = some .cell ∨ sc.names.lookup x = some .free
def Loc (sc : Scope) (x : Str) : Prop := sc.names.lookup x = some .local ∨ sc.names.lookup x = some .cell
def Look (env : Env) (h : Heap) (m : Str → Option Value) (x : Str) (u : Value) : Prop :=
 (env.kindOf x = some .local ∧ m x = some u) ∨ ((env.kindOf x = some .cell ∨ env.kindOf x = some .free) ∧ ∃ c, env.cells.lookup x = some c ∧ h.IsCell c (some u))
structure Cx.Ok (X : Cx) : Prop where
 mod : Mod X.K X.mg X.base
 kind : X.env.scope.kind = .function
 glob : X.env.globals = mainGlobals
 blt : X.env.builtins = builtinsNs
 above : X.s₀.heap.objs.size ≤ X.env.locals
 inj : ∀ x y c, X.env.cells.lookup x = some c → X.env.cells.lookup y = some c → x = y
 has : ∀ x, (X.env.kindOf x = some .cell ∨ X.env.kindOf x = some .free) → ∃ c, X.env.cells.lookup x = some c
 cab : ∀ x c, X.fn x = true → X.env.cells.lookup x = some c → X.s₀.heap.objs.size ≤ c
 hd : X.calm = true → X.A.handled = none
 frames : X.A.frames = some X.stack
 stk : X.stack = X.outer ∨ (X.stack = X.env :: X.outer ∧ X.env.frame = some X.env.locals)
 exf : ∀ b ∈ X.ex, b ≠ X.env.locals ∧ ∀ x c, X.env.cells.lookup x = some c → c ≠ b
 bs : ∀ b o, X.base.get? b = some o → X.s₀.heap.get? b = some o ∧ X.H₀ b = none
 bsz : X.base.objs.size ≤ X.s₀.heap.objs.size
 noex : ∀ b o, X.base.get? b = some o → b ∉ X.ex
 exfs : ∀ b ∈ X.ex, b ∉ X.fs
 funs : X.s₀.heap.FunFrames X.base X.outer
 frf : ∀ b ∈ X.fs, X.H₀ b = none
structure Inv (X : Cx) (pins : List (Addr × Obj)) (σ : List (Option V)) (H : Hp) (s : Shared) : Prop where
 ok : X.Ok
 os : s.os = X.s₀.os
 bare : AllBare s.gens
 base : Un X.fs X.ex X.H₀ H X.s₀.heap s.heap
 loc : ∃ m, s.heap.Ns X.env.locals m ∧ ∀ (i : Nat) (x : Str) (v : V), X.N[i]? = some x → σ[i]? = some (some v) → Vis X.env.scope x → ∃ u, RelV v u ∧ Look X.env s.heap m x u
 cell : ∀ x c, X.env.cells.lookup x = some c → ∃ v, s.heap.IsCell c v
 free : H X.env.locals = none
 freeC : ∀ x c, X.env.cells.lookup x = some c → H c = none
 pin : ∀ p ∈ X.pn ++ pins, s.heap.get? p.1 = some p.2 ∧ H p.1 = none ∧ p.1 ≠ X.env.locals ∧ p.1 ∉ X.fs ∧ ∀ v, p.2.data ≠ .cell v
 hok : HOk X.prog X.w H s.heap
 len : σ.length = X.N.length
section
variable {X : Cx} {pins : List (Addr × Obj)} {σ : List (Option V)} {H H' : Hp} {s : Shared} {h' : Heap}
theorem Cx.Ok.nofr (ok : X.Ok) {b : Addr} {o : Obj} (e : X.base.get? b = some o) : b ∉ X.fs := fun hb => by
 have := (ok.funs.mem hb).1
 rw [e] at this; cases this
theorem Inv.bs (I : Inv X pins σ H s) : ∀ b o, X.base.get? b = some o → s.heap.get? b = some o ∧ H b = none := fun b o e =>
 ⟨I.base.keep b o (I.ok.bs b o e).1 (I.ok.bs b o e).2 (I.ok.nofr e) (I.ok.noex b o e), I.base.free b o (I.ok.bs b o e).1 (I.ok.bs b o e).2 (I.ok.noex b o e)⟩
theorem Inv.bk (I : Inv X pins σ H s) : ∀ b o, X.base.get? b = some o → s.heap.get? b = some o := fun b o e => (I.bs b o e).1
theorem Inv.mod (I : Inv X pins σ H s) : Mod X.K X.mg X.base := I.ok.mod
theorem Inv.kIn (I : Inv X pins σ H s) : X.K.In s.heap := I.ok.mod.kin.keeps I.bk
theorem Inv.lt (I : Inv X pins σ H s) : X.env.locals < s.heap.objs.size := let ⟨_, hn, _⟩ := I.loc; hn.lt
theorem Inv.sz (I : Inv X pins σ H s) : X.s₀.heap.objs.size ≤ s.heap.objs.size := Nat.le_trans I.ok.above (Nat.le_of_lt I.lt)
theorem Inv.nofs (I : Inv X pins σ H s) {a : Addr} (h : s.heap.objs.size ≤ a) : a ∉ X.fs := fun hb => by
 obtain ⟨_, o, ho, _⟩ := I.ok.funs.mem hb
 exact absurd (Nat.lt_of_lt_of_le (Heap.lt_size ho) (Nat.le_trans I.sz h)) (Nat.lt_irrefl _)
theorem Inv.cne (I : Inv X pins σ H s) : ∀ x c, X.env.cells.lookup x = some c → c ≠ X.env.locals := fun x c e z => by
 obtain ⟨v, o, ho, hd⟩ := I.cell x c e
 obtain ⟨m, ⟨o', es, ep, ho', hd', _⟩, _⟩ := I.loc
 rw [z, ho'] at ho; cases ho; rw [hd'] at hd; cases hd
theorem Inv.funs (I : Inv X pins σ H s) : s.heap.FunFrames X.base X.outer := by
 have all : ∀ (l : List Env), (∀ b ∈ frs l, b ∈ X.fs) → X.s₀.heap.FunFrames X.base l → s.heap.FunFrames X.base l := by
  intro l
  induction l with
  | nil => intro _ _; trivial
  | cons env r ih =>
   intro hs hl
   obtain ⟨hk, ⟨L, o, hf, hn, ho, hd⟩, hr⟩ := hl
   have hL : L ∈ X.fs := hs L (by unfold frs; rw [List.filterMap_cons, hf]; exact List.mem_cons_self)
   obtain ⟨sl, e⟩ := I.base.slot L o ho (I.ok.frf L hL) hL fun z => I.ok.exfs L z hL
   exact ⟨hk, ⟨L, _, hf, hn, e, hd⟩, ih (fun b hb => hs b (by unfold frs; rw [List.filterMap_cons, hf]; exact List.mem_cons_of_mem _ hb)) hr⟩
 exact all X.outer (fun _ hb => hb) I.ok.funs
theorem Inv.stack (I : Inv X pins σ H s) : s.heap.FunFrames X.base X.stack := by
 rcases I.ok.stk with e | ⟨e, hf⟩
 · rw [e]; exact I.funs
 · rw [e]
   obtain ⟨m, hn, _⟩ := I.loc
   refine .cons (by rw [I.ok.kind]; decide) hf hn ?_ I.funs
   exact Heap.get?_none_of_le (Nat.le_trans I.ok.bsz I.ok.above)
theorem Inv.stkSub (I : Inv X pins σ H s) : ∀ b ∈ frs X.stack, b ∈ X.env.locals :: X.fs := fun b hb => by
 rcases I.ok.stk with e | ⟨e, hf⟩
 · rw [e] at hb; exact List.mem_cons_of_mem _ hb
 · rw [e] at hb
   unfold frs at hb
   rw [List.filterMap_cons, hf] at hb
   exact hb
theorem Inv.stkFree (I : Inv X pins σ H s) : ∀ b ∈ frs X.stack, H b = none := fun b hb => by
 rcases List.mem_cons.mp (I.stkSub b hb) with e | hb
 · rw [e]; exact I.free
 · obtain ⟨_, o, ho, _⟩ := I.ok.funs.mem hb
   exact I.base.free b o ho (I.ok.frf b hb) fun z => I.ok.exfs b z hb
theorem Inv.step {g' : Array GenState} {t' : Nat} {d' : Drawn} {ch : List Addr} (I : Inv X pins σ H s)
    (hch : ∀ b ∈ ch, (b ∈ X.ex ∨ X.s₀.heap.objs.size ≤ b) ∧ b ≠ X.env.locals ∧ (∀ x c, X.env.cells.lookup x = some c → c ≠ b) ∧ ∀ p ∈ X.pn ++ pins, p.1 ≠ b)
    (keep : ∀ b o, b ≠ X.env.locals → b ∉ X.fs → b ∉ ch → s.heap.get? b = some o → H b = none → h'.get? b = some o)
    (slot : ∀ b o, b ≠ X.env.locals → b ∈ X.fs → b ∉ ch → s.heap.get? b = some o → H b = none → ∃ sl, h'.get? b = some { o with slots := sl }) (free : ∀ b o, b ∉ ch → s.heap.get? b = some o → H b = none → H' b = none)
    (there : ∀ b o, b ∉ ch → s.heap.get? b = some o → ∃ o', h'.get? b = some o')
    (tups : ∀ b xs, H b = some (.tup xs) → H' b = some (.tup xs)) (frzs : ∀ b o u, H b = some (.frz o u) → H' b = some (.frz o u)) (tbls : ∀ b ps, H b = some (.tbl ps) → ∃ more, H' b = some (.tbl (ps ++ more)))
    (ns : ∀ m, s.heap.Ns X.env.locals m → h'.Ns X.env.locals m) (hok : HOk X.prog X.w H' h') (hg : AllBare g') :
    Inv X pins σ H' { s with heap := h', gens := g', drawn := d', toks := t' } := by
  have neL : ∀ b o, X.s₀.heap.get? b = some o → b ≠ X.env.locals := fun b o e => Nat.ne_of_lt (Nat.lt_of_lt_of_le (Heap.lt_size e) I.ok.above)
  have neC : ∀ b o, X.s₀.heap.get? b = some o → b ∉ X.ex → b ∉ ch := fun b o e hx hb => by
    rcases (hch b hb).1 with z | z
    · exact hx z
    · exact absurd (Nat.lt_of_lt_of_le (Heap.lt_size e) z) (Nat.lt_irrefl _)
  have cellK : ∀ x c, X.env.cells.lookup x = some c → ∀ v, s.heap.IsCell c v → h'.IsCell c v := fun x c e v ⟨o, ho, hd⟩ => by
    have nch : c ∉ ch := fun z => (hch c z).2.2.1 x c e rfl
    by_cases hc : c ∈ X.fs
    · obtain ⟨sl, q⟩ := slot c o (I.cne x c e) hc nch ho (I.freeC x c e)
      exact ⟨_, q, hd⟩
    · exact ⟨o, keep c o (I.cne x c e) hc nch ho (I.freeC x c e), hd⟩
  refine ⟨I.ok, I.os, hg, ⟨fun b o e n hb hx => ?_, fun b o e n hb hx => ?_, fun b o e n hx => ?_, fun b o e hx => ?_, fun b xs e => tups b xs (I.base.tups b xs e), fun b o xs e => frzs b o xs (I.base.frzs b o xs e), fun b ps e => ?_⟩, ?_, fun x c e => ?_, ?_, fun x c e => ?_, fun p hp => ?_, hok, I.len⟩
  · exact keep b o (neL b o e) hb (neC b o e hx) (I.base.keep b o e n hb hx) (I.base.free b o e n hx)
  · obtain ⟨sl, e1⟩ := I.base.slot b o e n hb hx
    obtain ⟨sl', e2⟩ := slot b _ (neL b o e) hb (neC b o e hx) e1 (I.base.free b o e n hx)
    exact ⟨sl', e2⟩
  · obtain ⟨o', e1⟩ := I.base.there b o e hx
    exact free b o' (neC b o e hx) e1 (I.base.free b o e n hx)
  · obtain ⟨o', e1⟩ := I.base.there b o e hx
    exact there b o' (neC b o e hx) e1
  · obtain ⟨m1, e1⟩ := I.base.tbls b ps e
    obtain ⟨m2, e2⟩ := tbls b _ e1
    exact ⟨m1 ++ m2, by rw [e2, Array.append_assoc]⟩
  · obtain ⟨m, hn, hl⟩ := I.loc
    refine ⟨m, ns m hn, fun i x v e1 e2 e3 => ?_⟩
    obtain ⟨u, r, l⟩ := hl i x v e1 e2 e3
    refine ⟨u, r, ?_⟩
    rcases l with l | ⟨k, c, e, z⟩
    · exact .inl l
    · exact .inr ⟨k, c, e, cellK x c e _ z⟩
  · obtain ⟨v, z⟩ := I.cell x c e
    exact ⟨v, cellK x c e v z⟩
  · obtain ⟨m, ⟨o, _, _, ho, _⟩, _⟩ := I.loc
    exact free _ o (fun z => (hch _ z).2.1 rfl) ho I.free
  · obtain ⟨v, o, ho, hd⟩ := I.cell x c e
    exact free c o (fun z => (hch c z).2.2.1 x c e rfl) ho (I.freeC x c e)
  · obtain ⟨e, n, ne, nf, d⟩ := I.pin p hp
    have nch : p.1 ∉ ch := fun z => (hch p.1 z).2.2.2 p hp rfl
    exact ⟨keep p.1 p.2 ne nf nch e n, free p.1 p.2 nch e n, ne, nf, d⟩
theorem Inv.un {t' : Nat} (I : Inv X pins σ H s) (u : Un X.fs [] H H' s.heap h') (hok : HOk X.prog X.w H' h') : Inv X pins σ H' { s with heap := h', toks := t' } := by
 obtain ⟨m, ⟨o, es, ep, ho, r⟩, _⟩ := id I.loc
 obtain ⟨sl, hL⟩ := u.any ho I.free (by simp)
 exact I.step (g' := s.gens) (d' := s.drawn) (ch := []) (fun _ z => nomatch z) (fun b o _ hb _ e n => u.keep b o e n hb (by simp)) (fun b o _ hb _ e n => u.slot b o e n hb (by simp)) (fun b o _ e n => u.free b o e n (by simp)) (fun b o _ e => u.there b o e (by simp)) u.tups u.frzs u.tbls (fun m' hm => by
  obtain ⟨o', es', ep', ho', r'⟩ := hm
  rw [ho] at ho'; cases ho'
  exact ⟨_, es', ep', hL, r'⟩) hok I.bare
theorem Inv.call {g' : Array GenState} {t' : Nat} {d' : Drawn} {ch : List Addr} (I : Inv X pins σ H s) (u : Un (frs X.stack) ch H H' s.heap h') (hok : HOk X.prog X.w H' h') (hg : AllBare g')
    (hch : ∀ b ∈ ch, (b ∈ X.ex ∨ X.s₀.heap.objs.size ≤ b) ∧ b ≠ X.env.locals ∧ (∀ x c, X.env.cells.lookup x = some c → c ≠ b) ∧ ∀ p ∈ X.pn ++ pins, p.1 ≠ b) :
    Inv X pins σ H' { s with heap := h', gens := g', drawn := d', toks := t' } := by
  obtain ⟨m, ⟨o, es, ep, ho, r⟩, _⟩ := id I.loc
  obtain ⟨sl, hL⟩ := u.any ho I.free fun z => (hch _ z).2.1 rfl
  exact I.step (ch := ch) hch (fun b o hL hb hc e n => u.keep b o e n (fun z => (List.mem_cons.mp (I.stkSub b z)).elim hL hb) hc) (fun b o _ _ hc e n => u.any e n hc) (fun b o hc e n => u.free b o e n hc) (fun b o hc e => u.there b o e hc) u.tups u.frzs u.tbls (fun m' hm => by
    obtain ⟨o', es', ep', ho', r'⟩ := hm
    rw [ho] at ho'; cases ho'
    exact ⟨_, es', ep', hL, r'⟩) hok hg
theorem Inv.turned {t' : Nat} {it : Addr} (I : Inv X pins σ H s) (k : ∀ b o, b ≠ it → s.heap.get? b = some o → h'.get? b = some o) (hn : H it = none) (hL : it ≠ X.env.locals)
    (h1 : it ∈ X.ex ∨ X.s₀.heap.objs.size ≤ it) (h2 : ∀ x c, X.env.cells.lookup x = some c → c ≠ it) (h3 : ∀ p ∈ X.pn ++ pins, p.1 ≠ it) : Inv X pins σ H { s with heap := h', toks := t' } := by
  have nit : ∀ b u, H b = some u → b ≠ it := fun b u e z => by rw [z, hn] at e; cases e
  refine I.step (g' := s.gens) (d' := s.drawn) (ch := [it]) (fun b hb => ?_) (fun b o _ _ hc e _ => k b o (fun z => hc (by simp [z])) e) (fun b o _ _ hc e _ => ⟨o.slots, k b o (fun z => hc (by simp [z])) e⟩) (fun _ _ _ _ n => n)
    (fun b o hc e => ⟨o, k b o (fun z => hc (by simp [z])) e⟩) (fun _ _ e => e) (fun _ _ _ e => e) (fun b ps e => ⟨#[], by rw [e]; simp⟩) (fun m hm => ?_) (fun b u e => ?_) I.bare
  · have e : b = it := by simpa using hb
    subst e
    exact ⟨h1, hL, h2, h3⟩
  · obtain ⟨o, es, ep, ho, r⟩ := hm
    exact ⟨o, es, ep, k _ o (Ne.symm hL) ho, r⟩
  · refine (I.hok b u e).stay (fun c v hc q => k c v ?_ q) (fun _ q => q) fun _ _ q => q
    rcases hc with z | z
    · rw [z]; exact nit b u e
    · exact nit c _ z
theorem Inv.tok (I : Inv X pins σ H s) (t : Nat) : Inv X pins σ H { s with toks := t } := I.un (h' := s.heap) (t' := t) Un.refl I.hok
theorem Inv.kept {t' : Nat} (I : Inv X pins σ H s) (k : ∀ b u, s.heap.get? b = some u → h'.get? b = some u) : Inv X pins σ H { s with heap := h', toks := t' } := I.un (Un.kept k) (I.hok.kept k)
theorem Inv.laid {a : Addr} {o : HO} {t' : Nat} (I : Inv X pins σ H s) (k : ∀ b u, s.heap.get? b = some u → h'.get? b = some u) (hp : s.heap.objs.size ≤ a) (new : ObjOk X.prog X.w (upd H a o) h' a o) :
    Inv X pins σ (upd H a o) { s with heap := h', toks := t' } := I.un (Un.laid k hp (I.hok.fresh hp)) (I.hok.laid k hp new)
theorem Inv.write {x e : Addr} {o : HO} {t' : Nat} (I : Inv X pins σ H s) (mu : Mut (H x)) (he : e = x ∨ H e = some (.own x)) (k : ∀ b u, b ≠ e → s.heap.get? b = some u → h'.get? b = some u) (heo : ∃ u, h'.get? e = some u)
    (new : ObjOk X.prog X.w (upd H x o) h' x o) : Inv X pins σ (upd H x o) { s with heap := h', toks := t' } := I.un (Un.write mu he k heo) (I.hok.write mu he k heo new)
theorem Inv.pins_of {pins' : List (Addr × Obj)} (I : Inv X pins σ H s) (h : ∀ p ∈ pins', s.heap.get? p.1 = some p.2 ∧ H p.1 = none ∧ p.1 ≠ X.env.locals ∧ p.1 ∉ X.fs ∧ ∀ v, p.2.data ≠ .cell v) : Inv X pins' σ H s :=
 ⟨I.ok, I.os, I.bare, I.base, I.loc, I.cell, I.free, I.freeC, fun p hp => (List.mem_append.mp hp).elim (fun z => I.pin p (List.mem_append_left _ z)) (h p), I.hok, I.len⟩
theorem nodup_ix {N : List Str} (hN : N.Nodup) {i j : Nat} {x : Str} (a : N[i]? = some x) (b : N[j]? = some x) : i = j := by
 obtain ⟨h1, e1⟩ := List.getElem?_eq_some_iff.mp a
 obtain ⟨h2, e2⟩ := List.getElem?_eq_some_iff.mp b
 exact (List.getElem_inj hN).mp (e1.trans e2.symm)
theorem store_ok2 {M : Model} {A : Around} {E : Value → Shared → Prop} {i : Nat} {x : Str} {v : V} {u : Value} {Q : Unit → Shared → Prop} (I : Inv X pins σ H s) (hN : X.N.Nodup) (hi : X.N[i]? = some x) (hx : Loc X.env.scope x) (r : RelV v u)
    (h : ∀ s', Inv X pins (σ.set i (some v)) H s' → (∃ a, Heap.SameBut a s.heap s'.heap ∧ (a = X.env.locals ∨ X.env.cells.lookup x = some a)) → Q () s') (hf : X.fn x = true ∨ X.env.scope.names.lookup x = some .local := by first | exact .inl rfl | exact .inr rfl | assumption) : wpAny M A (storeName X.env x u) Q E s := by
  obtain ⟨m, hn, hl⟩ := id I.loc
  have hcls : (X.env.scope.kind == .class || (X.env.scope.kind == .module && X.env.locals != X.env.globals)) = false := by rw [I.ok.kind]; rfl
  have hiσ : i < σ.length := by rw [I.len]; exact (List.getElem?_eq_some_iff.mp hi).1
  have cne := I.cne
  have tracked : ∀ {a : Addr} {h' : Heap}, (∃ o, s.heap.get? a = some o ∧ H a = none) → Heap.SameBut a s.heap h' → HOk X.prog X.w H h' := fun {a h'} ha hs b ob e => by
    obtain ⟨_, _, hfree⟩ := ha
    refine (I.hok b ob e).stay (fun c w' hc q => (hs.2 c ?_).trans q) (fun _ q => q) fun _ _ q => q
    rintro rfl
    rcases hc with rfl | hc
    · rw [hfree] at e; cases e
    · rw [hfree] at hc; cases hc
  rcases hx with hk | hk
  · refine wpAny_storeName_local hk hn (fun h' hn' hs => ?_) hcls
    obtain ⟨oL, _, _, hoL, _⟩ := id hn
    refine h _ ⟨I.ok, I.os, I.bare, ⟨fun b o e n hb hx => ?_, fun b o e n hb hx => ?_, I.base.free, fun b o e hx => ?_, I.base.tups, I.base.frzs, I.base.tbls⟩, ⟨_, hn', fun j y v' e1 e2 e3 => ?_⟩, fun y c e => ?_, I.free, I.freeC, fun p hp => ?_, tracked ⟨oL, hoL, I.free⟩ hs, by simpa using I.len⟩ ⟨_, hs, .inl rfl⟩
    · exact (hs.2 b (Nat.ne_of_lt (Nat.lt_of_lt_of_le (Heap.lt_size e) I.ok.above))).trans (I.base.keep b o e n hb hx)
    · obtain ⟨sl, e1⟩ := I.base.slot b o e n hb hx
      exact ⟨sl, (hs.2 b (Nat.ne_of_lt (Nat.lt_of_lt_of_le (Heap.lt_size e) I.ok.above))).trans e1⟩
    · obtain ⟨o', e1⟩ := I.base.there b o e hx
      exact ⟨o', (hs.2 b (Nat.ne_of_lt (Nat.lt_of_lt_of_le (Heap.lt_size e) I.ok.above))).trans e1⟩
    · by_cases hj : j = i
      · subst hj
        rw [hi] at e1; cases e1
        rw [List.getElem?_set_self hiσ] at e2
        cases e2
        exact ⟨u, r, .inl ⟨hk, by simp⟩⟩
      · rw [List.getElem?_set_ne (Ne.symm hj)] at e2
        obtain ⟨u', r', q⟩ := hl j y v' e1 e2 e3
        refine ⟨u', r', ?_⟩
        rcases q with ⟨k, e⟩ | ⟨k, c, e, z⟩
        · refine .inl ⟨k, ?_⟩
          have : y ≠ x := fun e => hj (nodup_ix hN e1 (e ▸ hi))
          simp [this, e]
        · exact .inr ⟨k, c, e, z.sameBut hs (cne y c e)⟩
    · obtain ⟨w', z⟩ := I.cell y c e
      exact ⟨w', z.sameBut hs (cne y c e)⟩
    · obtain ⟨e, n, ne, nf, d⟩ := I.pin p hp
      exact ⟨(hs.2 p.1 ne).trans e, n, ne, nf, d⟩
  · have hfn : X.fn x = true := by
      rcases hf with z | z
      · exact z
      · rw [z] at hk; cases hk
    obtain ⟨c, hc⟩ := I.ok.has x (.inl hk)
    obtain ⟨w', z⟩ := I.cell x c hc
    refine wpAny_storeName_cell I.ok.kind hk hc z (fun h' hc' hs => ?_)
    obtain ⟨oc, hoc, hocd⟩ := id z
    refine h { s with heap := h' } ⟨I.ok, I.os, I.bare, ⟨fun b o e n hb hx => ?_, fun b o e n hb hx => ?_, I.base.free, fun b o e hx => ?_, I.base.tups, I.base.frzs, I.base.tbls⟩, ⟨m, hn.sameBut hs (Ne.symm (cne x c hc)), fun j y v' e1 e2 e3 => ?_⟩, fun y c' e => ?_, I.free, I.freeC, fun p hp => ?_, tracked ⟨oc, hoc, I.freeC x c hc⟩ hs, by simpa using I.len⟩ ⟨c, hs, .inr hc⟩
    · exact (hs.2 b (Nat.ne_of_lt (Nat.lt_of_lt_of_le (Heap.lt_size e) (I.ok.cab x c hfn hc)))).trans (I.base.keep b o e n hb hx)
    · obtain ⟨sl, e1⟩ := I.base.slot b o e n hb hx
      exact ⟨sl, (hs.2 b (Nat.ne_of_lt (Nat.lt_of_lt_of_le (Heap.lt_size e) (I.ok.cab x c hfn hc)))).trans e1⟩
    · obtain ⟨o', e1⟩ := I.base.there b o e hx
      exact ⟨o', (hs.2 b (Nat.ne_of_lt (Nat.lt_of_lt_of_le (Heap.lt_size e) (I.ok.cab x c hfn hc)))).trans e1⟩
    · by_cases hj : j = i
      · subst hj
        rw [hi] at e1; cases e1
        rw [List.getElem?_set_self hiσ] at e2
        cases e2
        exact ⟨u, r, .inr ⟨.inl hk, c, hc, hc'⟩⟩
      · rw [List.getElem?_set_ne (Ne.symm hj)] at e2
        obtain ⟨u', r', q⟩ := hl j y v' e1 e2 e3
        refine ⟨u', r', ?_⟩
        rcases q with q | ⟨k, c', e, z'⟩
        · exact .inl q
        · refine .inr ⟨k, c', e, z'.sameBut hs ?_⟩
          rintro rfl
          exact hj (nodup_ix hN e1 (I.ok.inj _ _ _ e hc ▸ hi))
    · by_cases hcc : c' = c
      · subst hcc; exact ⟨_, hc'⟩
      · obtain ⟨w2, z2⟩ := I.cell y c' e
        exact ⟨w2, z2.sameBut hs hcc⟩
    · obtain ⟨e, n, ne, nf, d⟩ := I.pin p hp
      refine ⟨(hs.2 p.1 ?_).trans e, n, ne, nf, d⟩
      intro q
      rw [q, hoc] at e
      have q' : oc = p.2 := Option.some.inj e
      exact d w' (by rw [← q']; exact hocd)
theorem store_ok {M : Model} {A : Around} {E : Value → Shared → Prop} {i : Nat} {x : Str} {v : V} {u : Value} {Q : Unit → Shared → Prop} (I : Inv X pins σ H s) (hN : X.N.Nodup) (hi : X.N[i]? = some x) (hx : Loc X.env.scope x) (r : RelV v u)
    (h : ∀ s', Inv X pins (σ.set i (some v)) H s' → Q () s') (hf : X.fn x = true ∨ X.env.scope.names.lookup x = some .local := by first | exact .inl rfl | exact .inr rfl | assumption) : wpAny M A (storeName X.env x u) Q E s :=
  store_ok2 I hN hi hx r (fun s' I' _ => h s' I') hf
theorem Inv.call' {s' : Shared} {ch : List Addr} (I : Inv X pins σ H s) (ho : s'.os = s.os) (u : Un (frs X.stack) ch H H' s.heap s'.heap) (hok : HOk X.prog X.w H' s'.heap) (hg : AllBare s'.gens)
    (hch : ∀ b ∈ ch, (b ∈ X.ex ∨ X.s₀.heap.objs.size ≤ b) ∧ b ≠ X.env.locals ∧ (∀ x c, X.env.cells.lookup x = some c → c ≠ b) ∧ ∀ p ∈ X.pn ++ pins, p.1 ≠ b) : Inv X pins σ H' s' := by
  obtain ⟨h', g', d', t', o'⟩ := s'
  have e : o' = s.os := ho
  subst e
  exact I.call (g' := g') (t' := t') (d' := d') u hok hg hch
end
abbrev XK := Value → Option Addr → Hp → Prop
abbrev St := List (Option V)
abbrev VK := V → Hp → Prop
abbrev TE := St → Hp → VK → Prop
abbrev TT := St → Hp → (Bool → Hp → Prop) → Prop
abbrev TA := St → Hp → (List V → Hp → Prop) → Prop
structure Ends where
 nx : St → Hp → Prop
 rt : VK
 bk : St → Hp → Prop := fun _ _ => False
 ct : St → Hp → Prop := fun _ _ => False
abbrev TS := Ends → St → Hp → Prop
def EP (X : Cx) (pins : List (Addr × Obj)) (σ : St) (Q : VK) (u : Value) (s' : Shared) : Prop := ∃ v H', Inv X pins σ H' s' ∧ RelV v u ∧ Q v H'
def TP (X : Cx) (pins : List (Addr × Obj)) (σ : St) (Q : Bool → Hp → Prop) (b : Bool) (s' : Shared) : Prop := ∃ H', Inv X pins σ H' s' ∧ Q b H'
def AP (X : Cx) (pins : List (Addr × Obj)) (σ : St) (Q : List V → Hp → Prop) (us : List Value) (s' : Shared) : Prop := ∃ vs H', Inv X pins σ H' s' ∧ Vals vs us ∧ Q vs H'
def SP (X : Cx) (pins : List (Addr × Obj)) (D : Ends) (f : Flow) (s' : Shared) : Prop :=
 match f with
 | .next => ∃ σ' H', Inv X pins σ' H' s' ∧ D.nx σ' H'
 | .brk => ∃ σ' H', Inv X pins σ' H' s' ∧ D.bk σ' H'
 | .cont => ∃ σ' H', Inv X pins σ' H' s' ∧ D.ct σ' H'
 | .ret u => ∃ v σ' H', Inv X pins σ' H' s' ∧ RelV v u ∧ D.rt v H'
def PE (X : Cx) (e : Expr) (t : TE) : Prop :=
 ∀ (pins : List (Addr × Obj)) (s : Shared) (σ : St) (H : Hp) (Q : VK), Inv X pins σ H s → t σ H Q → wpAny (model X.prog X.w) X.A (eval e X.env) (EP X pins σ Q) X.xe s
def PT (X : Cx) (e : Expr) (t : TT) : Prop :=
 ∀ (pins : List (Addr × Obj)) (s : Shared) (σ : St) (H : Hp) (Q : Bool → Hp → Prop), Inv X pins σ H s → t σ H Q → wpAny (model X.prog X.w) X.A (isTrue e X.env (eval e X.env)) (TP X pins σ Q) X.xe s
def PW (X : Cx) (e : Expr) (t : TT) : Prop :=
 ∀ (whole : Sem Value) (pins : List (Addr × Obj)) (s : Shared) (σ : St) (H : Hp) (Q : Bool → Hp → Prop), Inv X pins σ H s → t σ H Q → wpAny (model X.prog X.w) X.A (isTrue e X.env whole) (TP X pins σ Q) X.xe s
theorem PW.pt {X : Cx} {e : Expr} {t : TT} (h : PW X e t) : PT X e t := h _
def PA (X : Cx) (es : List Expr) (t : TA) : Prop :=
 ∀ (pos : Pos) (pins : List (Addr × Obj)) (s : Shared) (σ : St) (H : Hp) (Q : List V → Hp → Prop), Inv X pins σ H s → t σ H Q → wpAny (model X.prog X.w) X.A (spliced (backTo pos (starEach es X.env))) (AP X pins σ Q) X.xe s
def PS (X : Cx) (st : Stmt) (t : TS) : Prop :=
 ∀ (pins : List (Addr × Obj)) (s : Shared) (σ : St) (H : Hp) (D : Ends), Inv X pins σ H s → t D σ H → wpAny (model X.prog X.w) X.A (exec st X.env) (SP X pins D) X.xe s
def PSs (X : Cx) (st : List Stmt) (t : TS) : Prop :=
 ∀ (pins : List (Addr × Obj)) (s : Shared) (σ : St) (H : Hp) (D : Ends), Inv X pins σ H s → t D σ H → wpAny (model X.prog X.w) X.A (execs st X.env) (SP X pins D) X.xe s
theorem thn {α : Type} {t : Sem α} {Q Q' : α → Shared → Prop} {M : Model} {A : Around} {E : Value → Shared → Prop} {s : Shared} (h : wpAny M A t Q E s) (hQ : ∀ a s, Q a s → Q' a s) : wpAny M A t Q' E s := wpAny_mono h hQ fun _ _ x => x
end L2
namespace L2
open PySem PySem.Spec PyProof.Rows
section
variable {X : Cx}
noncomputable def tVar (i : Nat) : TE := fun σ H Q => ∃ v, σ[i]? = some (some v) ∧ Q v H
noncomputable def tC (v : V) : TE := fun _ H Q => Q v H
theorem pe_var {i : Nat} {x : Str} {pos : Pos} (hN : X.N[i]? = some x) (hv : Vis X.env.scope x) (hd : (x == ("__debug__" : Str)) = false := by decide) (hcd : (x == ("__classdict__" : Str)) = false := by decide) : PE X (.Name x pos) (tVar i) := by
 intro pins s σ H Q I h
 obtain ⟨v, e, h⟩ := h
 obtain ⟨m, hn, hl⟩ := I.loc
 obtain ⟨u, r, l⟩ := hl i x v hN e hv
 have fin : EP X pins σ Q u s := ⟨v, H, I, r, h⟩
 rcases l with ⟨hk, hm⟩ | ⟨hk, c, hc, hcell⟩
 · exact wpAny_Name (wpAny_loadName_local I.ok.kind hk hn hm fin) hd
 · rcases hk with hk | hk
   · exact wpAny_Name (wpAny_loadName_cell I.ok.kind hk hc hcell fin) hd
   · exact wpAny_Name (wpAny_loadName_free I.ok.kind hk hc hcell fin hcd) hd
theorem pe_int {i j pos} : PE X (.Constant (.int i) j pos) (tC (.int i)) := fun _ _ _ H _ I h => wpAny_Constant_int ⟨.int i, H, I.tok _, ⟨_, rfl⟩, h⟩
theorem pe_bl {b j pos} : PE X (.Constant (.bool b) j pos) (tC (.bl b)) := fun _ _ _ H _ I h => Constant_bool ⟨.bl b, H, I, rfl, h⟩
theorem pe_non {j pos} : PE X (.Constant .none j pos) (tC .non) := fun _ _ _ H _ I h => Constant_none ⟨.non, H, I, rfl, h⟩
theorem pe_str {x j pos} : PE X (.Constant (.str x) j pos) (tC (.str x)) := fun _ _ _ H _ I h => Calls.Constant_str ⟨.str x, H, I.tok _, ⟨_, rfl⟩, h⟩
def Gl (X : Cx) (x : Str) : Prop := X.env.kindOf x = some .globalImplicit
theorem ld_glob {E : Value → Shared → Prop} {pins : List (Addr × Obj)} {s : Shared} {σ : St} {H : Hp} {x : Str} {u : Value} {pos : Pos} {Q : Value → Shared → Prop} (I : Inv X pins σ H s) (hg : Gl X x) (hm : X.mg x = some u) (h : Q u s)
    (hd : (x == ("__debug__" : Str)) = false := by decide) : wpAny (model X.prog X.w) X.A (eval (.Name x pos) X.env) Q E s :=
  Calls.Name_function_global I.ok.kind hg (Calls.loadGlobal_global (by rw [I.ok.glob]; exact I.mod.glob.keeps I.bk) hm h) hd
theorem ld_blt {E : Value → Shared → Prop} {pins : List (Addr × Obj)} {s : Shared} {σ : St} {H : Hp} {x : Str} {u : Value} {pos : Pos} {Q : Value → Shared → Prop} (I : Inv X pins σ H s) (hg : Gl X x) (hm : X.mg x = none) (hv : bootBuiltins x = some u) (h : Q u s)
    (hn : x ≠ "__name__" := by decide) (hd : (x == ("__debug__" : Str)) = false := by decide) : wpAny (model X.prog X.w) X.A (eval (.Name x pos) X.env) Q E s := by
  obtain ⟨mb, h1, h2⟩ := I.mod.blt
  exact Calls.Name_function_global I.ok.kind hg (Calls.loadGlobal_builtin (by rw [I.ok.glob]; exact I.mod.glob.keeps I.bk) hm (by rw [I.ok.blt]; exact h1.keeps I.bk) ((h2 x hn).trans hv) h) hd
theorem pe_bltn {x : Str} {v : V} {u : Value} {pos : Pos} (hg : Gl X x) (hm : X.mg x = none) (hv : bootBuiltins x = some u) (r : RelV v u) (hn : x ≠ "__name__" := by decide) (hd : (x == ("__debug__" : Str)) = false := by decide) : PE X (.Name x pos) (tC v) :=
 fun _ _ _ H _ I h => ld_blt I hg hm hv ⟨v, H, I, r, h⟩ hn hd
variable {a b : Expr} {ta tb : TE} {pos : Pos}
noncomputable def tB (t : TE) : TT := fun σ H Q => t σ H fun x H1 => ∃ c, x = .bl c ∧ Q c H1
variable {tA tB' : TT} {rest : List Expr}
noncomputable def tAnd (t u : TT) : TT := fun σ H Q => t σ H fun c H1 => if c = true then u σ H1 Q else Q false H1
noncomputable def tOr (t u : TT) : TT := fun σ H Q => t σ H fun c H1 => if c = true then Q true H1 else u σ H1 Q
noncomputable def tNot (t : TT) : TT := fun σ H Q => t σ H fun c H1 => Q (!c) H1
theorem pw_and1 (ha : PT X a tA) : PW X (.BoolOp .And [a] pos) tA := by
 intro wh pins s σ H Q I h
 refine isTrue_and (thn (ha pins s σ H Q I h) fun c s1 e => ?_)
 cases c with
 | true => exact isTrue_and_nil e
 | false => exact e
theorem pw_or1 (ha : PT X a tA) : PW X (.BoolOp .Or [a] pos) tA := by
 intro wh pins s σ H Q I h
 refine isTrue_or (thn (ha pins s σ H Q I h) fun c s1 e => ?_)
 cases c with
 | false => exact isTrue_or_nil e
 | true => exact e
theorem pw_and (ha : PT X a tA) (hb : PW X (.BoolOp .And (b :: rest) pos) tB') : PW X (.BoolOp .And (a :: b :: rest) pos) (tAnd tA tB') := by
 intro wh pins s σ H Q I h
 refine isTrue_and (thn (ha pins s σ H _ I h) fun c s1 ⟨H1, I1, q1⟩ => ?_)
 cases c with
 | true => exact hb wh pins s1 σ H1 Q I1 q1
 | false => exact ⟨H1, I1, q1⟩
theorem pw_or (ha : PT X a tA) (hb : PW X (.BoolOp .Or (b :: rest) pos) tB') : PW X (.BoolOp .Or (a :: b :: rest) pos) (tOr tA tB') := by
 intro wh pins s σ H Q I h
 refine isTrue_or (thn (ha pins s σ H _ I h) fun c s1 ⟨H1, I1, q1⟩ => ?_)
 cases c with
 | true => exact ⟨H1, I1, q1⟩
 | false => exact hb wh pins s1 σ H1 Q I1 q1
theorem pt_not (ha : PT X a tA) : PT X (.UnaryOp .Not a pos) (tNot tA) := by
 intro pins s σ H Q I h
 exact isTrue_not (ha pins s σ H (fun c H1 => Q (!c) H1) I h)
end
end L2
namespace L2
open PySem PySem.Spec PyProof.Rows
def SqL (K : PySem.W.Frag) (H : Hp) (a : Addr) (xs : List V) : Prop :=
 Rd H a (.lst xs) ∨
  ∃ (o : Obj) (its : Array Value) (n : Nat), K.lookup a = some o ∧ o.cls = .type "list" ∧ o.dict = none ∧ o.data = .seq its n ∧ its.size ≤ sizeLine ∧ Vals xs its.toList
def SqT (K : PySem.W.Frag) (H : Hp) (a : Addr) (xs : List V) : Prop :=
 Rd H a (.tup xs) ∨
  ∃ (o : Obj) (its : Array Value) (n : Nat), K.lookup a = some o ∧ o.cls = .type "tuple" ∧ o.data = .seq its n ∧ its.size ≤ sizeLine ∧ Vals xs its.toList
noncomputable def absV : Value → Option V
 | .none => some .non
 | .bool b => some (.bl b)
 | .int i _ => some (.int i)
 | .str x _ => some (.str x)
 | .bytes b _ => some (.byt b)
 | .float b _ => some (.flt b)
 | .ref a => some (.ref a)
 | .type n => some (.ty n)
 | _ => none
theorem RelV.abs {x : V} {u : Value} (r : RelV x u) : absV u = some x := by
 cases x with
 | non => cases r; rfl
 | bl _ => cases r; rfl
 | int _ => obtain ⟨t, rfl⟩ := r; rfl
 | str _ => obtain ⟨t, rfl⟩ := r; rfl
 | byt _ => obtain ⟨t, rfl⟩ := r; rfl
 | flt _ => obtain ⟨t, rfl⟩ := r; rfl
 | ref _ => cases r; rfl
 | ty _ => cases r; rfl
theorem RelV.inj {x y : V} {u : Value} (r : RelV x u) (q : RelV y u) : x = y := Option.some.inj (r.abs.symm.trans q.abs)
theorem Vals.inj : ∀ {xs ys : List V} {us : List Value}, Vals xs us → Vals ys us → xs = ys
 | _, _, _, .nil, .nil => rfl
 | _, _, _, .cons r t, .cons r' t' => by rw [r.inj r', Vals.inj t t']
section
variable {X : Cx} {pins : List (Addr × Obj)} {σ : St} {H : Hp} {s : Shared} {a : Addr} {xs ys : List V}
theorem SqL.of {K : PySem.W.Frag} (h : H a = some (.lst xs)) : SqL K H a xs := .inl (.inl h)
theorem SqT.of {K : PySem.W.Frag} (h : H a = some (.tup xs)) : SqT K H a xs := .inl (.inl h)
theorem Inv.list (I : Inv X pins σ H s) (h : SqL X.K H a xs) : ∃ its : List Value, Vals xs its ∧ PlainL s.heap a its.toArray ∧ xs.length ≤ sizeLine := by
 rcases h with h | ⟨o, its, n, hk, hc, hd, hs, hz, r⟩
 · obtain ⟨z, its, n, r, e⟩ := h.ok I.hok
   exact ⟨its, r, ⟨_, n, e, rfl, rfl, rfl⟩, z⟩
 · refine ⟨its.toList, r, ⟨o, n, I.kIn a o hk, hc, hd, by simpa using hs⟩, ?_⟩
   have e := r.length
   simp only [Array.length_toList] at e
   omega
theorem Inv.tuple (I : Inv X pins σ H s) (h : SqT X.K H a xs) : ∃ its : List Value, Vals xs its ∧ IsTup s.heap a its.toArray ∧ xs.length ≤ sizeLine := by
 rcases h with h | ⟨o, its, n, hk, hc, hs, hz, r⟩
 · obtain ⟨z, its, r, p⟩ := h.ok I.hok
   exact ⟨its, r, p, z⟩
 · refine ⟨its.toList, r, ⟨o, I.kIn a o hk, hc, n, by simpa using hs⟩, ?_⟩
   have e := r.length
   simp only [Array.length_toList] at e
   omega
theorem Inv.list_inj (I : Inv X pins σ H s) (h : SqL X.K H a xs) (h' : SqL X.K H a ys) : xs = ys := by
 obtain ⟨its, r, ⟨o, n, e, _, _, d⟩, _⟩ := I.list h
 obtain ⟨its', r', ⟨o', n', e', _, _, d'⟩, _⟩ := I.list h'
 rw [e] at e'; cases e'
 rw [d] at d'
 injection d' with d1 _
 have : its = its' := by simpa using congrArg Array.toList d1
 subst this
 exact r.inj r'
theorem Inv.tuple_inj (I : Inv X pins σ H s) (h : SqT X.K H a xs) (h' : SqT X.K H a ys) : xs = ys := by
 obtain ⟨its, r, ⟨o, e, _, n, d⟩, _⟩ := I.tuple h
 obtain ⟨its', r', ⟨o', e', _, n', d'⟩, _⟩ := I.tuple h'
 rw [e] at e'; cases e'
 rw [d] at d'
 injection d' with d1 _
 have : its = its' := by simpa using congrArg Array.toList d1
 subst this
 exact r.inj r'
end
abbrev Cx.wish (X : Cx) (E : Value → Shared → Prop) : Cx := { X with xe := E }
abbrev Cx.nox (X : Cx) : Cx := X.wish fun _ _ => False
theorem Cx.Ok.wish {X : Cx} (ok : X.Ok) (E : Value → Shared → Prop) : (X.wish E).Ok :=
 ⟨ok.mod, ok.kind, ok.glob, ok.blt, ok.above, ok.inj, ok.has, ok.cab, ok.hd, ok.frames, ok.stk, ok.exf, ok.bs, ok.bsz, ok.noex, ok.exfs, ok.funs, ok.frf⟩
theorem Cx.Ok.unwish {X : Cx} {E : Value → Shared → Prop} (ok : (X.wish E).Ok) : X.Ok :=
 ⟨ok.mod, ok.kind, ok.glob, ok.blt, ok.above, ok.inj, ok.has, ok.cab, ok.hd, ok.frames, ok.stk, ok.exf, ok.bs, ok.bsz, ok.noex, ok.exfs, ok.funs, ok.frf⟩
section
variable {X : Cx} {pins : List (Addr × Obj)} {σ : St} {H : Hp} {s : Shared} {E : Value → Shared → Prop}
theorem Inv.wish (I : Inv X pins σ H s) (E : Value → Shared → Prop) : Inv (X.wish E) pins σ H s := ⟨I.ok.wish E, I.os, I.bare, I.base, I.loc, I.cell, I.free, I.freeC, I.pin, I.hok, I.len⟩
theorem Inv.unwish (I : Inv (X.wish E) pins σ H s) : Inv X pins σ H s := ⟨I.ok.unwish, I.os, I.bare, I.base, I.loc, I.cell, I.free, I.freeC, I.pin, I.hok, I.len⟩
theorem SP.unwish {D : Ends} {f : Flow} {s' : Shared} (h : SP (X.wish E) pins D f s') : SP X pins D f s' := by
 cases f with
 | next => obtain ⟨σ', H', I, q⟩ := h; exact ⟨σ', H', I.unwish, q⟩
 | brk => obtain ⟨σ', H', I, q⟩ := h; exact ⟨σ', H', I.unwish, q⟩
 | cont => obtain ⟨σ', H', I, q⟩ := h; exact ⟨σ', H', I.unwish, q⟩
 | ret u => obtain ⟨v, σ', H', I, r, q⟩ := h; exact ⟨v, σ', H', I.unwish, r, q⟩
theorem PE.nox {e : Expr} {t : TE} (h : PE X.nox e t) : PE X e t := fun pins s σ H Q I hw =>
 wpAny_mono (h pins s σ H Q (I.wish _) hw) (fun _ _ ⟨v, H', I', r, q⟩ => ⟨v, H', I'.unwish, r, q⟩) fun _ _ z => False.elim z
theorem PT.nox {e : Expr} {t : TT} (h : PT X.nox e t) : PT X e t := fun pins s σ H Q I hw =>
 wpAny_mono (h pins s σ H Q (I.wish _) hw) (fun _ _ ⟨H', I', q⟩ => ⟨H', I'.unwish, q⟩) fun _ _ z => False.elim z
theorem PSs.nox {st : List Stmt} {t : TS} (h : PSs X.nox st t) : PSs X st t := fun pins s σ H D I hw =>
 wpAny_mono (h pins s σ H D (I.wish _) hw) (fun _ _ q => q.unwish) fun _ _ z => False.elim z
end
section
variable {X : Cx} {st : Stmt} {rest : List Stmt} {t u : TS} {e : Expr} {te : TE} {pos : Pos}
noncomputable def tNext : TS := fun D σ H => D.nx σ H
noncomputable def tSeq (t u : TS) : TS := fun D σ H => t { D with nx := u D } σ H
theorem pss_nil : PSs X [] tNext := fun _ _ σ H _ I h => wpAny_execs_nil ⟨σ, H, I, h⟩
theorem pss_cons (h1 : PS X st t) (h2 : PSs X rest u) : PSs X (st :: rest) (tSeq t u) := by
 intro pins s σ H D I h
 refine wpAny_execs_cons (thn (h1 pins s σ H { D with nx := u D } I h) fun f s1 q => ?_)
 cases f with
 | next =>
  obtain ⟨σ', H', I', q⟩ := q
  exact h2 pins s1 σ' H' D I' q
 | ret v => exact q
 | brk => exact q
 | cont => exact q
theorem Inv.quiet {pins : List (Addr × Obj)} {σ : St} {H : Hp} {s : Shared} (I : Inv X pins σ H s) : interactive X.env = false := by simp [interactive, I.ok.kind]
noncomputable def tDrop (te : TE) : TS := fun D σ H => te σ H fun _ H1 => D.nx σ H1
theorem ps_expr (he : PE X e te) (hs : swapsWith e none pos.line X.env = pure false := by rfl) : PS X (.Expr e pos) (tDrop te) := by
 intro pins s σ H D I h
 exact wpAny_Expr_any (thn (he pins s σ H _ I h) fun v s1 ⟨x, H1, I1, r1, q1⟩ => ⟨σ, H1, I1, q1⟩) I.quiet hs
noncomputable def tRet (te : TE) : TS := fun D σ H => te σ H D.rt
theorem ps_ret (he : PE X e te) : PS X (.Return (some e) pos) (tRet te) := by
 intro pins s σ H D I h
 exact wpAny_Return_some (thn (he pins s σ H _ I h) fun v s1 ⟨x, H1, I1, r1, q1⟩ => ⟨x, σ, H1, I1, r1, q1⟩)
noncomputable def tIfS (c : TT) (t u : TS) : TS := fun D σ H => c σ H fun b H1 => if b = true then t D σ H1 else u D σ H1
theorem ps_if {c : Expr} {a b : List Stmt} {tc : TT} (hc : PT X c tc) (ha : PSs X a t) (hb : PSs X b u) : PS X (.If c a b pos) (tIfS tc t u) := by
 intro pins s σ H D I h
 refine wpAny_If (thn (hc pins s σ H _ I h) fun d s1 ⟨H1, I1, q1⟩ => ?_)
 cases d with
 | true => exact ha pins s1 σ H1 D I1 q1
 | false => exact hb pins s1 σ H1 D I1 q1
end
abbrev TG := V → St → Hp → (St → Hp → Prop) → Prop
abbrev TGs := List V → St → Hp → (St → Hp → Prop) → Prop
def PG (X : Cx) (target : Expr) (t : TG) : Prop :=
 ∀ (pins : List (Addr × Obj)) (s : Shared) (σ : St) (H : Hp) (v : V) (u : Value) (Q : St → Hp → Prop), Inv X pins σ H s → RelV v u → t v σ H Q →
  wpAny (model X.prog X.w) X.A (assign target X.env u) (fun _ s' => ∃ σ' H', Inv X pins σ' H' s' ∧ Q σ' H') X.xe s
def PGs (X : Cx) (ts : List Expr) (t : TGs) : Prop :=
 ∀ (pins : List (Addr × Obj)) (s : Shared) (σ : St) (H : Hp) (vs : List V) (us : List Value) (Q : St → Hp → Prop), Inv X pins σ H s → Vals vs us → t vs σ H Q →
  wpAny (model X.prog X.w) X.A (assignInOrder ((assignEach ts X.env).map (·.2)) us) (fun _ s' => ∃ σ' H', Inv X pins σ' H' s' ∧ Q σ' H') X.xe s
abbrev TSet := V → V → V → Hp → (Hp → Prop) → Prop
def PSet (X : Cx) (t : TSet) : Prop :=
 ∀ (pins : List (Addr × Obj)) (s : Shared) (σ : St) (H : Hp) (o i v : V) (ov iv u : Value) (Q : Hp → Prop), Inv X pins σ H s → RelV o ov → RelV i iv → RelV v u → t o i v H Q →
  wpAny (model X.prog X.w) X.A (setItem ov iv u) (fun _ s' => ∃ H', Inv X pins σ H' s' ∧ Q H') X.xe s
abbrev TIp := V → V → Hp → VK → Prop
def PIp (X : Cx) (op : Operator) (t : TIp) : Prop :=
 ∀ (pins : List (Addr × Obj)) (s : Shared) (σ : St) (H : Hp) (x y : V) (v u : Value) (Q : VK), Inv X pins σ H s → RelV x v → RelV y u → t x y H Q →
  wpAny (model X.prog X.w) X.A (inplaceOp op v u) (EP X pins σ Q) X.xe s
section
variable {X : Cx} {pos : Pos}
noncomputable def gName (i : Nat) : TG := fun v σ H Q => Q (σ.set i (some v)) H
theorem pg_name {i : Nat} {x : Str} (hN : X.N.Nodup) (hi : X.N[i]? = some x) (hx : Loc X.env.scope x) (hf : X.fn x = true ∨ X.env.scope.names.lookup x = some .local := by first | exact .inl rfl | exact .inr rfl | assumption) : PG X (.Name x pos) (gName i) := by
 intro pins s σ H v u Q I r h
 exact wpAny_assign_Name (store_ok I hN hi hx r (fun s' I' => ⟨_, H, I', h⟩) hf)
noncomputable def gNil : TGs := fun vs σ H Q => vs = [] ∧ Q σ H
noncomputable def gCons (t : TG) (u : TGs) : TGs := fun vs σ H Q => ∃ v r, vs = v :: r ∧ t v σ H fun σ' H' => u r σ' H' Q
theorem pgs_nil : PGs X [] gNil := by
 intro pins s σ H vs us Q I r h
 obtain ⟨e, h⟩ := h
 subst e
 cases r
 exact assignInOrder_nil ⟨σ, H, I, h⟩
theorem pgs_cons {e : Expr} {es : List Expr} {t : TG} {u : TGs} (h1 : PG X e t) (h2 : PGs X es u)
    (hs : (assignEach (e :: es) X.env).map (·.2) = assign e X.env :: (assignEach es X.env).map (·.2) := by rfl) : PGs X (e :: es) (gCons t u) := by
  intro pins s σ H vs us Q I r h
  obtain ⟨v, vr, e1, h⟩ := h
  subst e1
  cases r with
  | cons r rr =>
    rw [hs]
    refine assignInOrder_cons (thn (h1 pins s σ H _ _ _ I r h) fun _ s1 ⟨σ1, H1, I1, q1⟩ => ?_)
    exact h2 pins s1 σ1 H1 _ _ Q I1 rr q1
noncomputable def gTup (K : PySem.W.Frag) (n : Nat) (t : TGs) : TG := fun v σ H Q => ∃ a xs, v = .ref a ∧ SqT K H a xs ∧ xs.length = n ∧ t xs σ H Q
theorem pg_tup {es : List Expr} {k : Nat} {t : TGs} {n : Nat} (hc : X.calm = true) (h : PGs X es t)
    (hn : (assignEach es X.env).length = n := by rfl) (hst : (assignEach es X.env).findIdx? (·.1) = none := by rfl) : PG X (.Tuple es k pos) (gTup X.K n t) := by
  intro pins s σ H v u Q I r hw
  obtain ⟨a, xs, e1, hq, hl, hw⟩ := hw
  subst e1
  cases r
  obtain ⟨its, rv, ht, hz⟩ := I.tuple hq
  refine assign_Tuple_tuple (I.ok.hd hc) ht (by simp [hn, ← hl, rv.length]) hst fun h' hx => ?_
  have I1 : Inv X pins σ H { s with heap := h' } := I.kept (t' := s.toks) fun b o e => hx b o (Nat.ne_of_lt (Heap.lt_size e)) e
  exact h pins _ σ H xs _ Q I1 (by simpa using rv) hw
noncomputable def tAsg (te : TE) (g : TG) : TS := fun D σ H => te σ H fun x H1 => g x σ H1 D.nx
theorem ps_set {i : Nat} {x : Str} {e : Expr} {te : TE} {pos' : Pos} (hN : X.N.Nodup) (hi : X.N[i]? = some x) (hx : Loc X.env.scope x) (he : PE X e te) (hs : swapsWith e (some (.Name x pos')) pos.line X.env = pure false := by rfl) (hf : X.fn x = true ∨ X.env.scope.names.lookup x = some .local := by first | exact .inl rfl | exact .inr rfl | assumption) :
    PS X (.Assign [.Name x pos'] e pos) (tAsg te (gName i)) := by
  intro pins s σ H D I h
  refine wpAny_Assign_Name (thn (he pins s σ H _ I h) fun v s1 ⟨y, H1, I1, r1, q1⟩ => ?_) hs
  exact store_ok I1 hN hi hx r1 (fun s2 I2 => ⟨_, H1, I2, q1⟩) hf
noncomputable def tAug (i : Nat) (te : TE) (ti : TIp) : TS := fun D σ H => ∃ x, σ[i]? = some (some x) ∧ te σ H fun y H1 => ti x y H1 fun z H2 => D.nx (σ.set i (some z)) H2
theorem ps_aug {i : Nat} {x : Str} {e : Expr} {te : TE} {op : Operator} {ti : TIp} {pos' : Pos} (hN : X.N.Nodup) (hi : X.N[i]? = some x) (hx : Loc X.env.scope x) (he : PE X e te) (ho : PIp X op ti) (hf : X.fn x = true ∨ X.env.scope.names.lookup x = some .local := by first | exact .inl rfl | exact .inr rfl | assumption) :
    PS X (.AugAssign (.Name x pos') op e pos) (tAug i te ti) := by
  intro pins s σ H D I h
  obtain ⟨v, e1, h⟩ := h
  obtain ⟨m, hn, hl⟩ := I.loc
  have vis : Vis X.env.scope x := by rcases hx with k | k; exact .inl k; exact .inr (.inl k)
  obtain ⟨u, r, l⟩ := hl i x v hi e1 vis
  refine wpAny_AugAssign_Name ?_
  have go : wpAny (model X.prog X.w) X.A (eval e X.env) (fun w s₂ => wpAny (model X.prog X.w) X.A (inplaceOp op u w) (fun r s₃ => wpAny (model X.prog X.w) X.A (storeName X.env x r) (fun _ => SP X pins D .next) X.xe s₃) X.xe s₂) X.xe s := by
    refine thn (he pins s σ H _ I h) fun w s1 ⟨y, H1, I1, r1, q1⟩ => ?_
    refine thn (ho pins s1 σ H1 v y u w _ I1 r r1 q1) fun z s2 ⟨zv, H2, I2, r2, q2⟩ => ?_
    exact store_ok I2 hN hi hx r2 (fun s3 I3 => ⟨_, H2, I3, q2⟩) hf
  rcases l with ⟨hk, hm⟩ | ⟨hk, c, hc, hcell⟩
  · exact wpAny_loadName_local I.ok.kind hk hn hm go
  · rcases hk with hk | hk
    · exact wpAny_loadName_cell I.ok.kind hk hc hcell go
    · rcases hx with k | k
      · have : X.env.scope.names.lookup x = some .free := hk
        rw [k] at this; cases this
      · have : X.env.scope.names.lookup x = some .free := hk
        rw [k] at this; cases this
end
section
variable {X : Cx} {pos : Pos}
noncomputable def tWhile (c : TT) (tb : TS) : TS := fun D σ H => ∃ W : Nat → St → Hp → Prop, (∃ m, W m σ H) ∧ ∀ m σ H, W m σ H →
 c σ H fun b H1 => if b = true then ∃ N : St → Hp → Prop, (∀ σ' H', N σ' H' → ∃ m', m' < m ∧ W m' σ' H') ∧ tb { D with nx := N, ct := N, bk := D.nx } σ H1 else D.nx σ H1
theorem ps_while {c : Expr} {body : List Stmt} {tc : TT} {tb : TS} (hp : PassesOwn (model X.prog X.w) X.A X.env X.xe) (hc : PT X c tc) (hb : PSs X body tb) : PS X (.While c body [] pos) (tWhile tc tb) := by
 intro pins s σ H D I h
 obtain ⟨W, ⟨m0, w0⟩, turn⟩ := h
 refine wpAny_While (codeAny_whileLoop (fun n s' => ∃ σ' H', Inv X pins σ' H' s' ∧ W n σ' H') ?_ m0 ⟨σ, H, I, w0⟩)
 rintro n s1 ⟨σ1, H1, I1, w1⟩
 refine wpAny_passesOwn hp (thn (hc pins s1 σ1 H1 _ I1 (turn n σ1 H1 w1)) fun b s2 ⟨H2, I2, q2⟩ => ?_)
 cases b with
 | true =>
  obtain ⟨N, hN, q2⟩ := q2
  rw [if_pos rfl]
  refine wpAny_passesOwn hp (thn (hb pins s2 σ1 H2 _ I2 q2) fun f s3 q3 => ?_)
  cases f with
  | next =>
   obtain ⟨σ3, H3, I3, n3⟩ := q3
   obtain ⟨m', hm, w3⟩ := hN σ3 H3 n3
   exact ⟨m', hm, σ3, H3, I3, w3⟩
  | cont =>
   obtain ⟨σ3, H3, I3, n3⟩ := q3
   obtain ⟨m', hm, w3⟩ := hN σ3 H3 n3
   exact ⟨m', hm, σ3, H3, I3, w3⟩
  | brk => exact q3
  | ret v => exact q3
 | false =>
  rw [if_neg Bool.false_ne_true]
  exact wpAny_execs_nil ⟨σ1, H2, I2, q2⟩
end
structure It where
 go : Nat → Hp → Prop
 yld : Nat → Hp → V → Hp → Prop
 stop : Nat → Hp → Prop
def FpOk (X : Cx) (pins : List (Addr × Obj)) (H : Hp) (b : Addr) : Prop :=
 H b = none ∧ b ≠ X.env.locals ∧ b ∉ X.fs ∧ (b ∈ X.ex ∨ X.s₀.heap.objs.size ≤ b) ∧ (∀ x c, X.env.cells.lookup x = some c → c ≠ b) ∧ ∀ p ∈ X.pn ++ pins, p.1 ≠ b
theorem Inv.fpOk {X : Cx} {pins : List (Addr × Obj)} {σ : St} {H H' : Hp} {s : Shared} {b : Addr} (I : Inv X pins σ H s) (hb : s.heap.objs.size ≤ b) (hn : H' b = none) : FpOk X pins H' b := by
 refine ⟨hn, Nat.ne_of_gt (Nat.lt_of_lt_of_le I.lt hb), I.nofs hb, .inr (Nat.le_trans I.sz hb), fun x c e z => ?_, fun p hp z => ?_⟩
 · obtain ⟨v, q⟩ := I.cell x c e
   exact absurd (Nat.lt_of_lt_of_le q.lt (by rw [z]; exact hb)) (Nat.lt_irrefl _)
 · exact absurd (Nat.lt_of_lt_of_le (Heap.lt_size (I.pin p hp).1) (by rw [z]; exact hb)) (Nat.lt_irrefl _)
structure Turn (P : Program) (w : World) (K : PySem.W.Frag) (tg : Expr) (J : It) (fp : List Addr) (it : Addr) (tn : Nat → Heap → Prop) : Prop where
 mem : it ∈ fp
 obj : ∀ i h, tn i h → ∀ b ∈ fp, ∃ o, h.get? b = some o ∧ ∀ v, o.data ≠ .cell v
 keep : ∀ i h h', tn i h → (∀ b ∈ fp, ∀ o, h.get? b = some o → h'.get? b = some o) → tn i h'
 item : ∀ (X : Cx), X.prog = P → X.w = w → X.K = K → X.calm = true → ∀ (i : Nat) (pins : List (Addr × Obj)) (s : Shared) (σ : St) (H : Hp) (E : Value → Shared → Prop), Inv X pins σ H s → (∀ b ∈ fp, FpOk X pins H b) → tn i s.heap → J.go i H →
  wpAny (model P w) X.A (pyNext (.ref it)) (fun r s1 => ∃ u, r = some u ∧
   wpAny (model P w) X.A (letOwnedTupleGo tg (.ref it) u) (fun _ s2 => ∃ x H', Inv X pins σ H' s2 ∧ RelV x u ∧ J.yld i H x H' ∧ tn (i + 1) s2.heap ∧ ∀ b ∈ fp, H' b = none) E s1) E s
 done : ∀ (X : Cx), X.prog = P → X.w = w → X.K = K → X.calm = true → ∀ (i : Nat) (pins : List (Addr × Obj)) (s : Shared) (σ : St) (H : Hp) (E : Value → Shared → Prop), Inv X pins σ H s → (∀ b ∈ fp, FpOk X pins H b) → tn i s.heap → J.stop i H →
  wpAny (model P w) X.A (pyNext (.ref it)) (fun r s1 => r = none ∧ Inv X pins σ H s1) E s
 self : ∀ (A : Around) (i : Nat) (s : Shared) (Q : Value → Shared → Prop) (E : Value → Shared → Prop), tn i s.heap → Q (.ref it) s → wpAny (model P w) A (pyIter (.ref it)) Q E s
abbrev TI := St → Hp → (It → Hp → Prop) → Prop
def PIE (X : Cx) (pins : List (Addr × Obj)) (σ : St) (tg : Expr) (R : It → Hp → Prop) (itv : Value) (s2 : Shared) : Prop :=
 ∃ (it : Addr) (fp : List Addr) (tn : Nat → Heap → Prop) (J : It) (H' : Hp), itv = .ref it ∧ Inv X pins σ H' s2 ∧ Turn X.prog X.w X.K tg J fp it tn ∧ tn 0 s2.heap ∧ (∀ b ∈ fp, FpOk X pins H' b) ∧ R J H'
def PI (X : Cx) (tg iter : Expr) (wi : TI) : Prop :=
 ∀ (pins : List (Addr × Obj)) (s : Shared) (σ : St) (H : Hp) (R : It → Hp → Prop), Inv X pins σ H s → wi σ H R →
  wpAny (model X.prog X.w) X.A (eval iter X.env) (fun v s1 => wpAny (model X.prog X.w) X.A (pyIter v) (PIE X pins σ tg R) X.xe s1) X.xe s
theorem go_of {M : Model} {A : Around} {E : Value → Shared → Prop} {s : Shared} {tg : Expr} {it : Addr} {u : Value} {o : Obj} {n : String} {vs : Array Value} {Q : Unit → Shared → Prop} (ho : s.heap.get? it = some o) (hc : o.cls = .type n) (hd : o.data = .fields vs)
    (hn : ["enumerate", "zip", "dict_itemiterator", "dict_reverseitemiterator", "odict_iterator", "itertools.zip_longest", "itertools.pairwise"].contains n = false) (hQ : Q () s) : wpAny M A (letOwnedTupleGo tg (.ref it) u) Q E s := by
  unfold letOwnedTupleGo
  cases tg <;> first
    | exact wpAny_pure hQ
    | (cases u <;> first
        | exact wpAny_pure hQ
        | (refine wpAny_bind (wpAny_load ho ?_)
           rw [hc, hd]
           show wpAny M A (if (["enumerate", "zip", "dict_itemiterator", "dict_reverseitemiterator", "odict_iterator", "itertools.zip_longest", "itertools.pairwise"].contains n && vs[0]? == some (rawInt _)) = true then _ else _) Q E s
           rw [if_neg (by intro h; rw [hn, Bool.false_and] at h; cases h)]
           exact wpAny_pure hQ))
noncomputable def Itl (K : PySem.W.Frag) (a : Addr) : It :=
 ⟨fun i H => ∃ xs x, SqL K H a xs ∧ xs[i]? = some x, fun i H x H' => H' = H ∧ ∀ xs, SqL K H a xs → xs[i]? = some x, fun i H => ∃ xs, SqL K H a xs ∧ xs.length ≤ i⟩
noncomputable def Itt (K : PySem.W.Frag) (a : Addr) : It :=
 ⟨fun i H => ∃ xs x, SqT K H a xs ∧ xs[i]? = some x, fun i H x H' => H' = H ∧ ∀ xs, SqT K H a xs → xs[i]? = some x, fun i H => ∃ xs, SqT K H a xs ∧ xs.length ≤ i⟩
noncomputable def Itr (lo : Int) (n : Nat) : It := ⟨fun i _ => i < n, fun i H x H' => H' = H ∧ x = .int (lo + i), fun i _ => n ≤ i⟩
theorem turn_list {P : Program} {w : World} {K : PySem.W.Frag} {tg : Expr} (a it : Addr) : Turn P w K tg (Itl K a) [it] it (fun i h => h.IsListIter it a i) where
 mem := by simp
 obj := fun i h st b hb => by
  have e : b = it := by simpa using hb
  subst e
  obtain ⟨o, e, c, d⟩ := st
  exact ⟨o, e, fun v z => by rw [d] at z; cases z⟩
 keep := fun i h h' st k => st.at fun o e => k it (by simp) o e
 item := by
  intro X hP hw hK hc i pins s σ H E I hf st hg
  subst hP hw hK
  obtain ⟨xs, x, hq, hx⟩ := hg
  obtain ⟨its, rv, p, hz⟩ := I.list hq
  obtain ⟨u, hu, ru⟩ := rv.get hx
  obtain ⟨f0, f1, f2, f3, f4, f5⟩ := hf it (by simp)
  refine wpAny_pyNext_list_item st p.isList (x := u) (by simpa using hu) fun h' st' sb => ?_
  have I1 : Inv X pins σ H { s with heap := h' } := I.turned (t' := s.toks) (fun b o hb e => (sb.2 b hb).trans e) f0 f1 f3 f4 f5
  obtain ⟨o, e, c, d⟩ := id st'
  exact ⟨u, rfl, go_of (s := { s with heap := h' }) e c d (by decide) ⟨x, H, I1, ru, ⟨rfl, fun ys hy => by rw [I.list_inj hy hq]; exact hx⟩, st', fun b hb => (hf b hb).1⟩⟩
 done := by
  intro X hP hw hK hc i pins s σ H E I hf st hg
  subst hP hw hK
  obtain ⟨xs, hq, hx⟩ := hg
  obtain ⟨its, rv, p, hz⟩ := I.list hq
  obtain ⟨f0, f1, f2, f3, f4, f5⟩ := hf it (by simp)
  have hl := rv.length
  exact wpAny_pyNext_list_end (I.ok.hd hc) st p.isList (by simp; omega) fun h' eb => ⟨rfl, I.turned (t' := s.toks) (fun b o hb e => eb b o hb e) f0 f1 f3 f4 f5⟩
 self := fun _ _ _ _ _ st h => wpAny_pyIter_listiter st h
theorem turn_tuple {P : Program} {w : World} {K : PySem.W.Frag} {tg : Expr} (a it : Addr) : Turn P w K tg (Itt K a) [it] it (fun i h => h.IsTupleIter it a i) where
 mem := by simp
 obj := fun i h st b hb => by
  have e : b = it := by simpa using hb
  subst e
  obtain ⟨o, e, c, d⟩ := st
  exact ⟨o, e, fun v z => by rw [d] at z; cases z⟩
 keep := fun i h h' st k => st.at fun o e => k it (by simp) o e
 item := by
  intro X hP hw hK hc i pins s σ H E I hf st hg
  subst hP hw hK
  obtain ⟨xs, x, hq, hx⟩ := hg
  obtain ⟨its, rv, p, hz⟩ := I.tuple hq
  obtain ⟨u, hu, ru⟩ := rv.get hx
  obtain ⟨f0, f1, f2, f3, f4, f5⟩ := hf it (by simp)
  refine wpAny_pyNext_tuple_item st (show s.heap.IsTuple a its.toArray from p) (x := u) (by simpa using hu) fun h' st' sb => ?_
  have I1 : Inv X pins σ H { s with heap := h' } := I.turned (t' := s.toks) (fun b o hb e => (sb.2 b hb).trans e) f0 f1 f3 f4 f5
  obtain ⟨o, e, c, d⟩ := id st'
  exact ⟨u, rfl, go_of (s := { s with heap := h' }) e c d (by decide) ⟨x, H, I1, ru, ⟨rfl, fun ys hy => by rw [I.tuple_inj hy hq]; exact hx⟩, st', fun b hb => (hf b hb).1⟩⟩
 done := by
  intro X hP hw hK hc i pins s σ H E I hf st hg
  subst hP hw hK
  obtain ⟨xs, hq, hx⟩ := hg
  obtain ⟨its, rv, p, hz⟩ := I.tuple hq
  obtain ⟨f0, f1, f2, f3, f4, f5⟩ := hf it (by simp)
  have hl := rv.length
  exact wpAny_pyNext_tuple_end (I.ok.hd hc) st (show s.heap.IsTuple a its.toArray from p) (by simp; omega) fun h' eb => ⟨rfl, I.turned (t' := s.toks) (fun b o hb e => eb b o hb e) f0 f1 f3 f4 f5⟩
 self := fun _ _ _ _ _ st h => wpAny_pyIter_tupleiter st h
theorem turn_range {P : Program} {w : World} {K : PySem.W.Frag} {tg : Expr} (it : Addr) (lo : Int) (n : Nat) : Turn P w K tg (Itr lo n) [it] it (fun i h => IsRangeIter h it (lo + (i : Nat) * 1) ((n : Int) - (i : Nat)) 1) where
 mem := by simp
 obj := fun i h st b hb => by
  have e : b = it := by simpa using hb
  subst e
  exact ⟨_, st, fun v z => by
   have z' : Data.fields _ = Data.cell v := z
   cases z'⟩
 keep := fun i h h' st k => k it (by simp) _ st
 item := by
  intro X hP hw hK hc i pins s σ H E I hf st hg
  subst hP hw hK
  obtain ⟨f0, f1, f2, f3, f4, f5⟩ := hf it (by simp)
  have W := Walks.range (prog := X.prog) (w := X.w) (I.ok.hd hc) it lo 1 n
  refine W.item i s _ _ hg st fun v h' tk hv st' kk => ?_
  obtain ⟨t, rfl⟩ := hv
  have I1 : Inv X pins σ H { s with heap := h', toks := tk } := I.turned (fun b o hb e => kk b o (by simpa using hb) e) f0 f1 f3 f4 f5
  refine ⟨_, rfl, go_of (s := { s with heap := h', toks := tk }) (n := "range_iterator") st' rfl rfl (by decide) ⟨.int (lo + i), H, I1, ⟨t, ?_⟩, ⟨rfl, rfl⟩, st', fun b hb => (hf b hb).1⟩⟩
  rw [Int.mul_one]
 done := by
  intro X hP hw hK hc i pins s σ H E I hf st hg
  subst hP hw hK
  obtain ⟨f0, f1, f2, f3, f4, f5⟩ := hf it (by simp)
  exact wpAny_pyNext_range_end (I.ok.hd hc) st (by have : n ≤ i := hg; omega) fun h' eb => ⟨rfl, I.turned (t' := s.toks) (fun b o hb e => eb b o hb e) f0 f1 f3 f4 f5⟩
 self := fun _ _ _ _ _ st h => wpAny_pyIter_rangeiter st h
end L2
namespace L2
open PySem PySem.Spec PyProof.Rows
section
variable {X : Cx} {tg : Expr}
noncomputable def iList (K : PySem.W.Frag) (tl : TE) : TI := fun σ H R => tl σ H fun x H1 => ∃ a, x = .ref a ∧ (∃ xs, SqL K H1 a xs) ∧ R (Itl K a) H1
noncomputable def iTup (K : PySem.W.Frag) (tl : TE) : TI := fun σ H R => tl σ H fun x H1 => ∃ a, x = .ref a ∧ (∃ xs, SqT K H1 a xs) ∧ R (Itt K a) H1
theorem pi_list {l : Expr} {tl : TE} (hl : PE X l tl) : PI X tg l (iList X.K tl) := by
 intro pins s σ H R I h
 refine thn (hl pins s σ H _ I h) fun v s1 ⟨x, H1, I1, r1, q1⟩ => ?_
 obtain ⟨a, e, ⟨xs, hq⟩, q⟩ := q1
 subst e
 cases r1
 obtain ⟨its, rv, p, hz⟩ := I1.list hq
 refine wpAny_pyIter_list p.isList ?_
 refine ⟨s1.heap.objs.size, [s1.heap.objs.size], _, _, H1, rfl, I1.kept (t' := s1.toks) fun b o e => Heap.get?_push_of_some _ e, turn_list a _, ⟨_, Heap.get?_push_size _ rfl, rfl, rfl⟩, fun b hb => ?_, q⟩
 have e : b = s1.heap.objs.size := by simpa using hb
 subst e
 exact I1.fpOk (Nat.le_refl _) (I1.hok.fresh (Nat.le_refl _))
theorem pi_tup {l : Expr} {tl : TE} (hl : PE X l tl) : PI X tg l (iTup X.K tl) := by
 intro pins s σ H R I h
 refine thn (hl pins s σ H _ I h) fun v s1 ⟨x, H1, I1, r1, q1⟩ => ?_
 obtain ⟨a, e, ⟨xs, hq⟩, q⟩ := q1
 subst e
 cases r1
 obtain ⟨its, rv, p, hz⟩ := I1.tuple hq
 refine wpAny_pyIter_tuple (show s1.heap.IsTuple a its.toArray from p) ?_
 refine ⟨s1.heap.objs.size, [s1.heap.objs.size], _, _, H1, rfl, I1.kept (t' := s1.toks) fun b o e => Heap.get?_push_of_some _ e, turn_tuple a _, ⟨_, Heap.get?_push_size _ rfl, rfl, rfl⟩, fun b hb => ?_, q⟩
 have e : b = s1.heap.objs.size := by simpa using hb
 subst e
 exact I1.fpOk (Nat.le_refl _) (I1.hok.fresh (Nat.le_refl _))
theorem range_it {pins : List (Addr × Obj)} {σ : St} {H : Hp} {s : Shared} {R : It → Hp → Prop} {E : Value → Shared → Prop} {lo hi : Int} {t u v : Tok} {tk : Nat} (I : Inv X pins σ H s) (h1 : -(2 ^ 62) ≤ lo) (h2 : lo < 2 ^ 62) (h3 : -(2 ^ 62) ≤ hi) (h4 : hi < 2 ^ 62)
    (q : R (Itr lo (hi - lo).toNat) H) : wpAny (model X.prog X.w) X.A (pyIter (.ref s.heap.objs.size)) (PIE X pins σ tg R) E { s with heap := s.heap.push { cls := .type "range", data := .fields #[.int lo t, .int hi u, .int 1 v] }, toks := tk } := by
  refine wpAny_pyIter_range (IsRange.new ..) (small_one h1 h2 h3 h4) ?_
  have I1 : Inv X pins σ H { s with heap := s.heap.push { cls := .type "range", data := .fields #[.int lo t, .int hi u, .int 1 v] }, toks := tk } := I.kept fun b o e => Heap.get?_push_of_some _ e
  refine ⟨(s.heap.push { cls := .type "range", data := .fields #[.int lo t, .int hi u, .int 1 v] }).objs.size, [(s.heap.push { cls := .type "range", data := .fields #[.int lo t, .int hi u, .int 1 v] }).objs.size], _, _, H, rfl,
    I1.kept (t' := tk) fun b o e => Heap.get?_push_of_some _ e, turn_range _ lo (hi - lo).toNat, ?_, fun b hb => ?_, q⟩
  · have e1 : lo + ((0 : Nat) : Int) * 1 = lo := by simp
    have e2 : (((hi - lo).toNat : Nat) : Int) - ((0 : Nat) : Int) = Builtin.Range.rangeSize lo hi 1 := by rw [rangeSize_one]; split <;> omega
    show IsRangeIter _ _ (lo + ((0 : Nat) : Int) * 1) ((((hi - lo).toNat : Nat) : Int) - ((0 : Nat) : Int)) 1
    rw [e1, e2]
    exact Heap.get?_push_size _ rfl
  · have e : b = (s.heap.push { cls := .type "range", data := .fields #[.int lo t, .int hi u, .int 1 v] }).objs.size := by simpa using hb
    subst e
    exact I1.fpOk (Nat.le_refl _) (I1.hok.fresh (Nat.le_refl _))
noncomputable def iRng1 (ta : TA) : TI := fun σ H R => ta σ H fun vs H1 => ∃ j : Int, vs = [.int j] ∧ -(2 ^ 62) ≤ j ∧ j < 2 ^ 62 ∧ R (Itr 0 j.toNat) H1
theorem pi_range1 {a : Expr} {ta : TA} {p pos : Pos} (hg : Gl X "range") (hm : X.mg "range" = none) (ha : PA X [a] ta) (hs : starEach [a] X.env = [(false, eval a X.env)] := by rfl) : PI X tg (.Call (.Name "range" p) [a] [] pos) (iRng1 ta) := by
 intro pins s σ H R I h
 refine Call_ (ld_blt I hg hm boot_range (PyProof.Rows.callWith_type1 (thn (ha pos pins s σ H _ I h) fun us s1 ⟨vs, H1, I1, r1, q1⟩ => ?_) hs rfl))
 obtain ⟨j, e, q1, q2, q⟩ := q1
 subst e
 cases r1 with
 | cons r rr =>
  cases rr
  obtain ⟨t, rfl⟩ := r
  exact call_range_1 (range_it I1 (by omega) (by omega) q1 q2 (by simpa using q))
noncomputable def tFor (wi : TI) (g : TG) (tb : TS) : TS := fun D σ H => wi σ H fun J H1 => ∃ W : Nat → Nat → St → Hp → Prop, (∃ m, W 0 m σ H1) ∧ ∀ i m σ H, W i m σ H →
 (J.stop i H ∧ D.nx σ H) ∨ (J.go i H ∧ ∃ N : St → Hp → Prop, (∀ σ' H', N σ' H' → ∃ m', m' < m ∧ W (i + 1) m' σ' H') ∧ ∀ x H', J.yld i H x H' → g x σ H' fun σ2 H2 => tb { D with nx := N, ct := N, bk := D.nx } σ2 H2)
noncomputable def pinsAt (fp : List Addr) (h : Heap) : List (Addr × Obj) := fp.filterMap fun b => (h.get? b).map fun o => (b, o)
theorem mem_pinsAt {fp : List Addr} {h : Heap} {b : Addr} {o : Obj} (hb : b ∈ fp) (e : h.get? b = some o) : (b, o) ∈ pinsAt fp h := List.mem_filterMap.mpr ⟨b, hb, by rw [e]; rfl⟩
theorem of_pinsAt {fp : List Addr} {h : Heap} {p : Addr × Obj} (hp : p ∈ pinsAt fp h) : p.1 ∈ fp ∧ h.get? p.1 = some p.2 := by
 obtain ⟨b, hb, e⟩ := List.mem_filterMap.mp hp
 cases q : h.get? b with
 | none => rw [q] at e; cases e
 | some o =>
  rw [q] at e
  have e' : (b, o) = p := Option.some.inj e
  subst e'
  exact ⟨hb, q⟩
theorem Inv.pinned {pins : List (Addr × Obj)} {σ : St} {H : Hp} {s : Shared} {fp : List Addr} (I : Inv X pins σ H s) (hf : ∀ b ∈ fp, FpOk X pins H b) (ho : ∀ b ∈ fp, ∃ o, s.heap.get? b = some o ∧ ∀ v, o.data ≠ .cell v) : Inv X (pins ++ pinsAt fp s.heap) σ H s :=
 I.pins_of fun p hp => (List.mem_append.mp hp).elim (fun z => I.pin p (List.mem_append_right _ z)) fun z => by
  obtain ⟨hb, e⟩ := of_pinsAt z
  obtain ⟨f0, f1, f2, _⟩ := hf p.1 hb
  obtain ⟨o, e', d⟩ := ho p.1 hb
  rw [e] at e'; cases e'
  exact ⟨e, f0, f1, f2, d⟩
theorem Inv.unpinned {pins pl : List (Addr × Obj)} {σ : St} {H : Hp} {s : Shared} (I : Inv X (pins ++ pl) σ H s) : Inv X pins σ H s := I.pins_of fun p hp => I.pin p (List.mem_append_right _ (List.mem_append_left _ hp))
theorem ps_for {iter : Expr} {body : List Stmt} {wi : TI} {g : TG} {tb : TS} {pos : Pos} (hp : PassesOwn (model X.prog X.w) X.A X.env X.xe) (hc : X.calm = true) (hi : PI X tg iter wi) (hg : PG X tg g) (hb : PSs X body tb)
    (hs : ∀ x, foldedSetIterable iter X.env x = pure x := by intro _; rfl) : PS X (.For tg iter body [] pos) (tFor wi g tb) := by
  intro pins s σ H D I h
  refine wpAny_For (thn (hi pins s σ H _ I h) fun v s1 h1 => thn h1 fun itv s2 h2 => ?_) hs
  obtain ⟨it, fp, tn, J, H2, e, I2, T, st2, f2, W, ⟨m0, w0⟩, turn⟩ := h2
  subst e
  have stat : ∀ {H' : Hp}, (∀ b ∈ fp, H' b = none) → ∀ b ∈ fp, FpOk X pins H' b := fun hn b hb => ⟨hn b hb, (f2 b hb).2⟩
  refine codeAny_forLoop_any (fun n s' => ∃ i σ' H', Inv X pins σ' H' s' ∧ tn i s'.heap ∧ (∀ b ∈ fp, H' b = none) ∧ W i n σ' H') ?_ m0 ⟨0, σ, H2, I2, st2, fun b hb => (f2 b hb).1, w0⟩
  rintro n s3 ⟨i, σ3, H3, I3, st3, fr3, w3⟩
  rcases turn i n σ3 H3 w3 with ⟨stop, qn⟩ | ⟨go, N, hN, step⟩
  · refine wpAny_passesOwn hp (thn (T.done X rfl rfl rfl hc i pins s3 σ3 H3 X.xe I3 (stat fr3) st3 stop) fun r s4 ⟨hr, I4⟩ => ?_)
    subst hr
    exact wpAny_execs_nil ⟨σ3, H3, I4, qn⟩
  · refine wpAny_passesOwn hp (thn (T.item X rfl rfl rfl hc i pins s3 σ3 H3 X.xe I3 (stat fr3) st3 go) fun r s4 ⟨u, hr, h4⟩ => ?_)
    subst hr
    refine wpAny_passesOwn hp (thn h4 fun _ s5 ⟨x, H5, I5, r5, y5, st5, fr5⟩ => ?_)
    have I5' := I5.pinned (stat fr5) (T.obj _ _ st5)
    refine wpAny_passesOwn hp (thn (hg _ s5 σ3 H5 x u _ I5' r5 (step x H5 y5)) fun _ s6 ⟨σ6, H6, I6, q6⟩ => ?_)
    refine wpAny_passesOwn hp (thn (hb _ s6 σ6 H6 _ I6 q6) fun f s7 q7 => ?_)
    have again : ∀ {σ7 : St} {H7 : Hp}, Inv X (pins ++ pinsAt fp s5.heap) σ7 H7 s7 → N σ7 H7 → ∃ m, m < n ∧ ∃ i σ' H', Inv X pins σ' H' s7 ∧ tn i s7.heap ∧ (∀ b ∈ fp, H' b = none) ∧ W i m σ' H' := fun {σ7 H7} I7 n7 => by
      obtain ⟨m', hm, w7⟩ := hN σ7 H7 n7
      refine ⟨m', hm, i + 1, σ7, H7, I7.unpinned, T.keep _ _ _ st5 fun b hb o e => (I7.pin (b, o) (List.mem_append_right _ (List.mem_append_right _ (mem_pinsAt hb e)))).1, fun b hb => ?_, w7⟩
      obtain ⟨o, e, d⟩ := T.obj _ _ st5 b hb
      exact (I7.pin (b, o) (List.mem_append_right _ (List.mem_append_right _ (mem_pinsAt hb e)))).2.1
    cases f with
    | next => obtain ⟨σ7, H7, I7, n7⟩ := q7; exact again I7 n7
    | cont => obtain ⟨σ7, H7, I7, n7⟩ := q7; exact again I7 n7
    | brk => obtain ⟨σ7, H7, I7, q7⟩ := q7; exact ⟨σ7, H7, I7.unpinned, q7⟩
    | ret v => obtain ⟨x7, σ7, H7, I7, r7, q7⟩ := q7; exact ⟨x7, σ7, H7, I7.unpinned, r7, q7⟩
end
end L2
namespace L2
open PySem PySem.Spec PyProof.Rows
abbrev R2 := V → V → Hp → VK → Prop
def OpR (X : Cx) (f : Value → Value → Sem Value) (r : R2) : Prop :=
 ∀ (pins : List (Addr × Obj)) (s : Shared) (σ : St) (H : Hp) (x y : V) (v u : Value) (Q : VK), Inv X pins σ H s → RelV x v → RelV y u → r x y H Q →
  wpAny (model X.prog X.w) X.A (f v u) (EP X pins σ Q) X.xe s
def CallR (X : Cx) (f : Value) (r : List V → Hp → VK → Prop) : Prop :=
 ∀ (pins : List (Addr × Obj)) (s : Shared) (σ : St) (H : Hp) (xs : List V) (us : List Value) (Q : VK), Inv X pins σ H s → Vals xs us → r xs H Q →
  wpAny (model X.prog X.w) X.A (call f us) (EP X pins σ Q) X.xe s
def TruR (X : Cx) (r : V → Hp → (Bool → Hp → Prop) → Prop) : Prop :=
 ∀ (pins : List (Addr × Obj)) (s : Shared) (σ : St) (H : Hp) (x : V) (v : Value) (Q : Bool → Hp → Prop), Inv X pins σ H s → RelV x v → r x H Q →
  wpAny (model X.prog X.w) X.A (truthy v) (TP X pins σ Q) X.xe s
noncomputable def tOp (r : R2) (ta tb : TE) : TE := fun σ H Q => ta σ H fun x H1 => tb σ H1 fun y H2 => r x y H2 Q
def rI (C : Int → Int → Prop) (g : Int → Int → V) : R2 := fun x y H Q => ∃ i j, x = .int i ∧ y = .int j ∧ C i j ∧ Q (g i j) H
noncomputable def rI0 (g : Int → Int → V) : R2 := fun x y H Q => ∃ i j, x = .int i ∧ y = .int j ∧ Q (g i j) H
section
variable {X : Cx} {a b c : Expr} {ta tb tc : TE} {pos : Pos}
theorem binT (ha : PE X a ta) (hb : PE X b tb) {pins : List (Addr × Obj)} {s : Shared} {σ : St} {H : Hp} {R : V → V → Hp → Prop} (I : Inv X pins σ H s)
    (h : ta σ H fun x H1 => tb σ H1 fun y H2 => R x y H2) {Q : Value → Shared → Prop} {f : Value → Value → Sem Value}
    (hf : ∀ v u s2 x y H2, Inv X pins σ H2 s2 → RelV x v → RelV y u → R x y H2 → wpAny (model X.prog X.w) X.A (f v u) Q X.xe s2) :
    wpAny (model X.prog X.w) X.A (eval a X.env) (fun v s₁ => wpAny (model X.prog X.w) X.A (eval b X.env) (fun u s₂ => wpAny (model X.prog X.w) X.A (f v u) Q X.xe s₂) X.xe s₁) X.xe s := by
  refine thn (ha pins s σ H _ I h) fun v s1 ⟨x, H1, I1, r1, q1⟩ => ?_
  refine thn (hb pins s1 σ H1 _ I1 q1) fun u s2 ⟨y, H2, I2, r2, q2⟩ => ?_
  exact hf v u s2 x y H2 I2 r1 r2 q2
theorem pe_op {op : Operator} {r : R2} (ho : OpR X (binaryOp op) r) (ha : PE X a ta) (hb : PE X b tb) : PE X (.BinOp a op b pos) (tOp r ta tb) := by
 intro pins s σ H Q I h
 exact wpAny_BinOp (binT ha hb I h fun v u s2 x y H2 I2 rx ry q => ho pins s2 σ H2 x y v u Q I2 rx ry q)
theorem opI {f : Value → Value → Sem Value} {C : Int → Int → Prop} {g : Int → Int → Int}
    (rule : ∀ (i j : Int) (t u : Tok) (s : Shared) (Q : Value → Shared → Prop) (E : Value → Shared → Prop), C i j → Q (.int (g i j) s.toks) { s with toks := s.toks + 1 } → wpAny (model X.prog X.w) X.A (f (.int i t) (.int j u)) Q E s) :
    OpR X f (rI C fun i j => .int (g i j)) := by
  intro pins s σ H x y v u Q I rx ry h
  obtain ⟨i, j, rfl, rfl, hc, q⟩ := h
  obtain ⟨t, rfl⟩ := rx
  obtain ⟨t', rfl⟩ := ry
  exact rule i j t t' s _ _ hc ⟨.int (g i j), H, I.tok _, ⟨_, rfl⟩, q⟩
theorem opI0 {f : Value → Value → Sem Value} {g : Int → Int → Int}
    (rule : ∀ (i j : Int) (t u : Tok) (s : Shared) (Q : Value → Shared → Prop) (E : Value → Shared → Prop), Q (.int (g i j) s.toks) { s with toks := s.toks + 1 } → wpAny (model X.prog X.w) X.A (f (.int i t) (.int j u)) Q E s) :
    OpR X f (rI0 fun i j => .int (g i j)) := by
  intro pins s σ H x y v u Q I rx ry h
  obtain ⟨i, j, rfl, rfl, q⟩ := h
  obtain ⟨t, rfl⟩ := rx
  obtain ⟨t', rfl⟩ := ry
  exact rule i j t t' s _ _ ⟨.int (g i j), H, I.tok _, ⟨_, rfl⟩, q⟩
theorem opB0 {f : Value → Value → Sem Value} {g : Int → Int → Bool}
    (rule : ∀ (i j : Int) (t u : Tok) (s : Shared) (Q : Value → Shared → Prop) (E : Value → Shared → Prop), Q (.bool (g i j)) s → wpAny (model X.prog X.w) X.A (f (.int i t) (.int j u)) Q E s) :
    OpR X f (rI0 fun i j => .bl (g i j)) := by
  intro pins s σ H x y v u Q I rx ry h
  obtain ⟨i, j, rfl, rfl, q⟩ := h
  obtain ⟨t, rfl⟩ := rx
  obtain ⟨t', rfl⟩ := ry
  exact rule i j t t' s _ _ ⟨.bl (g i j), H, I, rfl, q⟩
def CPow (i j : Int) : Prop := 0 ≤ j ∧ j ≤ 1000000 ∧ i.natAbs < 2 ^ 64
def CMul (i j : Int) : Prop := (-(2 ^ 64) < i ∧ i < 2 ^ 64) ∨ (-(2 ^ 64) < j ∧ j < 2 ^ 64)
theorem CMul.ok {i j : Int} (h : CMul i j) : IntMulOk i j := by
 rcases h with ⟨h1, h2⟩ | ⟨h1, h2⟩
 · exact .of_left (intBits_le_64 h1 h2)
 · exact .of_right (intBits_le_64 h1 h2)
theorem op_add : OpR X (binaryOp .Add) (rI0 fun i j => .int (i + j)) := opI0 fun _ _ _ _ _ _ _ q => add_int q
theorem op_modN : OpR X (binaryOp .Mod) (rI (fun _ j => j ≠ 0) fun i j => .int (i.fmod j)) := opI fun _ _ _ _ _ _ _ hc q => mod_int' hc q
theorem op_pow : OpR X (binaryOp .Pow) (rI CPow fun i j => .int (i ^ j.toNat)) := opI fun _ _ _ _ _ _ _ hc q => pow_int_small hc.1 hc.2.1 hc.2.2 q
end
section
variable {X : Cx} {a b c : Expr} {ta tb tc : TE} {pos : Pos}
theorem fin_bl {pins : List (Addr × Obj)} {σ : St} {H : Hp} {s : Shared} {Q : VK} {k k' : Bool} (I : Inv X pins σ H s) (q : Q (.bl k) H) (e : k = k') : EP X pins σ Q (.bool k') s := by
 subst e
 exact ⟨.bl k, H, I, rfl, q⟩
theorem op_lt : OpR X (compareOp .Lt) (rI0 fun i j => .bl (decide (i < j))) := opB0 fun _ _ _ _ _ _ _ q => lt_int q
theorem op_gt : OpR X (compareOp .Gt) (rI0 fun i j => .bl (decide (j < i))) := opB0 fun _ _ _ _ _ _ _ q => gt_int q
theorem op_in_str : OpR X (compareOp .In) (fun x y H Q => ∃ i j, x = .str i ∧ y = .str j ∧ Q (.bl (!(Builtin.Str.occurrences j i 0 j.length 1).isEmpty)) H) := by
 intro pins s σ H x y v u Q I rx ry h
 obtain ⟨i, j, rfl, rfl, q⟩ := h
 obtain ⟨t, rfl⟩ := rx
 obtain ⟨t', rfl⟩ := ry
 exact in_str (fin_bl I q rfl)
theorem op_notin_str : OpR X (compareOp .NotIn) (fun x y H Q => ∃ i j, x = .str i ∧ y = .str j ∧ Q (.bl (!(!(Builtin.Str.occurrences j i 0 j.length 1).isEmpty))) H) := by
 intro pins s σ H x y v u Q I rx ry h
 obtain ⟨i, j, rfl, rfl, q⟩ := h
 obtain ⟨t, rfl⟩ := rx
 obtain ⟨t', rfl⟩ := ry
 exact notIn_str (fin_bl I q rfl)
theorem OpR.or {f : Value → Value → Sem Value} {r r' : R2} (h : OpR X f r) (h' : OpR X f r') : OpR X f (fun x y H Q => r x y H Q ∨ r' x y H Q) := by
 intro pins s σ H x y v u Q I rx ry q
 rcases q with q | q
 · exact h pins s σ H x y v u Q I rx ry q
 · exact h' pins s σ H x y v u Q I rx ry q
theorem nomark (b : Expr) {op : CmpOp} (h : op ≠ .In := by decide) (h2 : op ≠ .NotIn := by decide) : behindInMarks op b = false := by
 have e1 : (op == CmpOp.In) = false := by cases op <;> first | rfl | exact absurd rfl h
 have e2 : (op == CmpOp.NotIn) = false := by cases op <;> first | rfl | exact absurd rfl h2
 cases b <;> simp [behindInMarks, e1, e2]
theorem pe_cmpR {op : CmpOp} {r : R2} (ho : OpR X (compareOp op) r) (ha : PE X a ta) (hb : PE X b tb) (hm : behindInMarks op b = false) : PE X (.Compare a [op] [b] pos) (tOp r ta tb) := by
 intro pins s σ H Q I h
 exact wpAny_Compare1 (binT ha hb I h fun v u s2 x y H2 I2 rx ry q => ho pins s2 σ H2 x y v u Q I2 rx ry q) hm
noncomputable def tTest (t : TE) : TT := fun σ H Q => t σ H fun x H' => ∃ k, x = .bl k ∧ Q k H'
theorem pt_cmpR {op : CmpOp} {r : R2} (ho : OpR X (compareOp op) r) (ha : PE X a ta) (hb : PE X b tb) (hm : behindInMarks op b = false) : PT X (.Compare a [op] [b] pos) (tTest (tOp r ta tb)) := by
 intro pins s σ H Q I h
 refine wpAny_isTrue_Compare1 (thn (ha pins s σ H _ I h) fun v s1 ⟨x, H1, I1, r1, q1⟩ => thn (hb pins s1 σ H1 _ I1 q1) fun u s2 ⟨y, H2, I2, r2, q2⟩ =>
  thn (ho pins s2 σ H2 x y v u _ I2 r1 r2 q2) fun c s3 ⟨z, H3, I3, r3, k, e, q3⟩ => ?_) hm
 subst e
 cases r3
 exact wpAny_truthy_bool ⟨H3, I3, q3⟩
def TruV (K : PySem.W.Frag) (x : V) (H : Hp) (k : Bool) : Prop :=
 match x with
 | .non => k = false
 | .bl b => k = b
 | .int i => k = (i != 0)
 | .str y => y.length ≤ sizeLine ∧ k = ((y.length : Int) != 0)
 | .byt y => y.size ≤ sizeLine ∧ k = ((y.size : Int) != 0)
 | .ref p => (∃ xs, SqL K H p xs ∧ k = !xs.isEmpty) ∨ (∃ xs, SqT K H p xs ∧ k = !xs.isEmpty) ∨ ∃ kvs, H p = some (.dK kvs) ∧ k = !kvs.isEmpty
 | _ => False
theorem isEmpty_kv {κ : Type} {kvs : List (κ × V)} {vs : List (κ × Value)} (r : KV kvs vs) : (!vs.isEmpty) = !kvs.isEmpty := by
 cases r <;> rfl
theorem isEmpty_of {xs : List V} {its : List Value} (r : Vals xs its) : (!its.toArray.isEmpty) = !xs.isEmpty := by
 cases r <;> simp
theorem line63 : (sizeLine : Nat) < 2 ^ 63 := by rw [sizeLine_eq]; decide
theorem tru_ok : TruR X (fun x H Q => ∃ k, TruV X.K x H k ∧ Q k H) := by
 intro pins s σ H x v Q I rx h
 obtain ⟨k, e, q⟩ := h
 have hl := line63
 have hs : sizeLine = 16777216 := sizeLine_eq
 cases x with
 | non =>
  cases rx
  have e' : k = false := e
  subst e'
  exact truthy_none ⟨H, I, q⟩
 | bl b =>
  cases rx
  have e' : k = b := e
  subst e'
  exact wpAny_truthy_bool ⟨H, I, q⟩
 | int i =>
  obtain ⟨t, rfl⟩ := rx
  have e' : k = (i != 0) := e
  subst e'
  exact PySem.P.truthy_int ⟨H, I, q⟩
 | str y =>
  obtain ⟨t, rfl⟩ := rx
  obtain ⟨hy, e'⟩ : y.length ≤ sizeLine ∧ k = ((y.length : Int) != 0) := e
  subst e'
  exact PySem.P.truthy_str (by omega) ⟨H, I.tok _, q⟩
 | byt y =>
  obtain ⟨t, rfl⟩ := rx
  obtain ⟨hy, e'⟩ : y.size ≤ sizeLine ∧ k = ((y.size : Int) != 0) := e
  subst e'
  exact PySem.W.truthy_bytes (by omega) ⟨H, I.tok _, q⟩
 | ref p =>
  cases rx
  have e' : (∃ xs, SqL X.K H p xs ∧ k = !xs.isEmpty) ∨ (∃ xs, SqT X.K H p xs ∧ k = !xs.isEmpty) ∨ ∃ kvs, H p = some (.dK kvs) ∧ k = !kvs.isEmpty := e
  rcases e' with ⟨xs, hx, e'⟩ | ⟨xs, hx, e'⟩ | ⟨kvs, hx, e'⟩
  · subst e'
    obtain ⟨its, r, pl, hz⟩ := I.list hx
    have hlen := r.length
    exact wpAny_truthy_list pl.isList (by simp only [List.size_toArray]; omega) ⟨H, I.tok _, by rw [isEmpty_of r]; exact q⟩
  · subst e'
    obtain ⟨its, r, pl, hz⟩ := I.tuple hx
    have hlen := r.length
    exact truthy_tuple pl (by simp only [List.size_toArray]; omega) ⟨H, I.tok _, by rw [isEmpty_of r]; exact q⟩
  · subst e'
    obtain ⟨hz, hS, vs, r, m⟩ : kvs.length ≤ sizeLine ∧ (p == sysModules) = false ∧ ∃ vs, KV kvs vs ∧ s.heap.DictOf (mixKind X.prog X.w) p vs := I.hok p _ hx
    have hlen : kvs.length = vs.length := Paired.length r
    exact wpAny_truthy_dict hS m (by omega) ⟨H, I.tok _, by rw [isEmpty_kv r]; exact q⟩
 | _ => exact (show False from e).elim
theorem pt_truth (ha : PE X a ta) (he : ∀ whole, isTrue a X.env whole = (do let v ← whole; standAt a.pos; holding [v] (truthy v))) :
    PT X a (fun σ H Q => ta σ H fun x H' => ∃ k, TruV X.K x H' k ∧ Q k H') := by
  intro pins s σ H Q I h
  exact isTrue_plain (thn (ha pins s σ H _ I h) fun v s1 ⟨x, H1, I1, r1, q1⟩ => tru_ok pins s1 σ H1 x v Q I1 r1 q1) (he _)
theorem op_add_str : OpR X (binaryOp .Add) (fun x y H Q => ∃ i j, x = .str i ∧ y = .str j ∧ i.length + j.length ≤ sizeLine ∧ Q (.str (i ++ j)) H) := by
 intro pins s σ H x y v u Q I rx ry h
 obtain ⟨i, j, rfl, rfl, hz, q⟩ := h
 obtain ⟨t, rfl⟩ := rx
 obtain ⟨t', rfl⟩ := ry
 exact add_str (fun t' tk => ⟨.str (i ++ j), H, I.tok _, ⟨_, rfl⟩, q⟩) hz
theorem vals1 {x : V} {us : List Value} (r : Vals [x] us) : ∃ u, us = [u] ∧ RelV x u := by
 cases r with
 | cons r1 r2 => cases r2; exact ⟨_, rfl, r1⟩
theorem vals2 {x y : V} {us : List Value} (r : Vals [x, y] us) : ∃ u w', us = [u, w'] ∧ RelV x u ∧ RelV y w' := by
 cases r with
 | cons r1 r2 =>
  cases r2 with
  | cons r3 r4 => cases r4; exact ⟨_, _, rfl, r1, r3⟩
end
end L2
namespace L2
open PySem PySem.Spec PyProof.Rows
structure ObjM (h : Heap) (x dx C : Addr) (mA : Str → Option Value) : Prop where
 obj : h.get? x = some (PySem.W.instObj C dx)
 ns : h.Ns1 dx mA
 ne : dx ≠ x
theorem lookIn_ns {h : Heap} {dx : Addr} {mA : Str → Option Value} (n : h.Ns1 dx mA) : ∃ od, h.get? dx = some od ∧ ∀ name, PySem.W.lookIn name od = some (mA name) := by
 obtain ⟨o, es, ep, ho, hd, hk, _, hm⟩ := n
 refine ⟨o, ho, fun name => ?_⟩
 have e := hm name
 unfold nsFind findBy at e
 rw [← Array.find?_toList] at e
 unfold PySem.W.lookIn
 rw [hd]
 dsimp only
 split
 · rename_i y q
   rw [q] at e
   exact congrArg some e
 · rename_i q
   rw [q] at e
   have a : es.toList.any (·.refKey) = false := by
    rw [List.any_eq_false]
    intro y hy
    obtain ⟨z, t, hkey⟩ := hk y (Array.mem_toList_iff.mp hy)
    simp [DictEntry.refKey, hkey]
   have a' : ¬ es.toList.any (·.refKey) = true := by rw [a]; exact Bool.false_ne_true
   rw [if_neg a']
   exact congrArg some e
theorem ObjM.look {h : Heap} {x dx C : Addr} {mA : Str → Option Value} (I : ObjM h x dx C mA) : ∃ od, PySem.W.InstAt h x (PySem.W.instObj C dx) C (some od) ∧ ∀ name, PySem.W.lookIn name od = some (mA name) :=
 let ⟨od, ho, hl⟩ := lookIn_ns I.ns
 ⟨od, ⟨I.obj, rfl, rfl, ho⟩, hl⟩
section
variable {prog : Program} {w : World} {A : Around} {E : Value → Shared → Prop} {s : Shared} {K : PySem.W.Frag} {x dx C f : Addr} {mA : Str → Option Value} {name : Str} {v : Value}
theorem get_map {expr : Bool} {Q : Value → Shared → Prop} (X : K.In s.heap) (I : ObjM s.heap x dx C mA) (hg : PySem.W.plainGet K C name = true) (hh : PySem.W.hasDictIn K C = true)
    (ha : PySem.W.findIn K (.ref C) name = some none) (hv : mA name = some v) (hv' : PySem.W.handedIn v = true) (h : Q v { s with toks := s.toks + 1 }) :
    wpAny (model prog w) A (getAttr (.ref x) name expr) Q E s := by
  obtain ⟨od, J, hl⟩ := I.look
  exact PySem.W.get_value X J (PySem.W.plainGet_of hg).1 (PySem.W.findObj_own hh ha rfl (by rw [hl, hv])) hv' h
theorem get_meth {pl : Sem Bool} {Q : Value × List Value → Shared → Prop} (X : K.In s.heap) (I : ObjM s.heap x dx C mA) (hg : PySem.W.plainGet K C name = true)
    (hf : PySem.W.findIn K (.ref C) name = some (some (.ref f))) (ht : PySem.W.isFn K (.ref f) = true) (hv : mA name = none) (h : Q (.ref f, [.ref x]) s) :
    wpAny (model prog w) A (getMethod (.ref x) name pl) Q E s := by
  obtain ⟨od, J, hl⟩ := I.look
  exact PySem.W.method_fn X J (PySem.W.plainGet_of hg).1 (PySem.W.plainGet_of hg).2 hf (beq_iff_eq.mp ht) (by show (PySem.W.lookIn name od).map (·.isSome) = some false; rw [hl, hv]; rfl) h
theorem set_map {ns : List Str} {Q : Unit → Shared → Prop} (X : K.In s.heap) (I : ObjM s.heap x dx C mA)
    (hs : PySem.W.findIn K (.ref C) "__setattr__" = some (some (.builtin "object.__setattr__"))) (hp : PySem.W.plainOver K C = true) (ht : PySem.W.takerIn K C name = some none) (hh : PySem.W.hasDictIn K C = true)
    (hw : PySem.Within mA ns) (hsz : ns.length ≤ sizeLine)
    (h : ∀ h', ObjM h' x dx C (fun y => if y = name then some v else mA y) → Heap.SameBut dx s.heap h' → Q () { s with heap := h', toks := s.toks + 2 }) :
    wpAny (model prog w) A (setAttr (.ref x) name v) Q E s := by
  obtain ⟨od, J, hl⟩ := I.look
  refine PySem.W.set_plain X J hs (PySem.W.osa_open (s := { s with toks := s.toks + 1 }) (r := none) X J hp ht fun b => ?_)
  obtain ⟨cd, hc, hd'⟩ := PySem.W.any_some hh
  have hx : s.heap.get? x = some ⟨.ref C, some dx, .plain, #[]⟩ := I.obj
  refine wpAny_bind (wpAny_pure (wpAny_bind (wpAny_bind (wpAny_loadPart hx (wpAny_bind (PySem.W.Looks.here (s := { s with toks := s.toks + 1 }) (PySem.W.looks_clsIn X hc) ?_))))))
  rw [hd']
  refine wpAny_pure (a := some dx) (wpAny_bind (wpAny_pure (wpAny_bind ?_)))
  refine wpAny_nsSet1 (s := { s with toks := s.toks + 1 }) I.ns fun h' hn2 hs2 => ?_
  obtain ⟨oD, esD, epD, hoD, hdD, hcD⟩ := hn2.count (PySem.Within.cons name v hw)
  refine wpAny_bind (wpAny_lookBehind hoD (by rw [hdD]; exact pastItsLine_dict (Nat.le_trans hcD (by rw [List.length_cons]; omega))) ?_)
  exact wpAny_pure (h _ ⟨(hs2.2 _ (Ne.symm I.ne)).trans I.obj, hn2, I.ne⟩ hs2)
theorem make_map {R : Result → Shared → Prop} {vs : List Value} {kw : List (Str × Value)} (X : K.In s.heap) (hm : PySem.W.makesIn K C = true)
    (hi : PySem.W.findIn K (.ref C) "__init__" = some (some (.ref f))) (hf : PySem.W.typeIn K (.ref f) = some (.type "function"))
    (h : codeAny (model prog w) (A.under (.builtin "type.__call__" ⟨.ref C :: vs, kw⟩)) (.call (.ref f) ⟨.ref (s.heap.objs.size + 1) :: vs, kw⟩) (PySem.W.InitBack (s.heap.objs.size + 1) R)
      { s with heap := (s.heap.push PySem.W.emptyDict).push (PySem.W.instObj C s.heap.objs.size) }) :
    codeAny (model prog w) A (.call (.ref C) ⟨vs, kw⟩) R s := by
  obtain ⟨hh, g, d, t, os⟩ := s
  exact PySem.W.make_core (PySem.W.makes_of X hm) (PySem.W.looks_findIn X hi) (fun self => PySem.W.bind_fn X self hf) (.inl rfl) h
end
noncomputable def putF (f : Str) (v : V) : List (Str × V) → List (Str × V)
 | [] => [(f, v)]
 | (g, x) :: r => if g = f then (g, v) :: r else (g, x) :: putF f v r
theorem lookup_putF (f g : Str) (v : V) : ∀ fs : List (Str × V), (putF f v fs).lookup g = if g = f then some v else fs.lookup g
 | [] => by
  show List.lookup g [(f, v)] = _
  by_cases h : g = f
  · have hb : (g == f) = true := beq_iff_eq.mpr h
    simp only [List.lookup, hb, if_pos h]
  · have hb : (g == f) = false := beq_eq_false_iff_ne.mpr h
    simp only [List.lookup, hb, if_neg h]
 | (k, x) :: r => by
  have ih := lookup_putF f g v r
  rw [show putF f v ((k, x) :: r) = (if k = f then (k, v) :: r else (k, x) :: putF f v r) from rfl]
  by_cases hk : k = f
  · rw [if_pos hk]
    by_cases h : g = k
    · have hb : (g == k) = true := beq_iff_eq.mpr h
      simp only [List.lookup, hb, if_pos (h.trans hk)]
    · have hb : (g == k) = false := beq_eq_false_iff_ne.mpr h
      simp only [List.lookup, hb, if_neg (fun e : g = f => h (e.trans hk.symm))]
  · rw [if_neg hk]
    by_cases h : g = k
    · have hb : (g == k) = true := beq_iff_eq.mpr h
      simp only [List.lookup, hb, if_neg (fun e : g = f => hk (h.symm.trans e))]
    · have hb : (g == k) = false := beq_eq_false_iff_ne.mpr h
      simp only [List.lookup, hb]
      exact ih
theorem keys_putF (f : Str) (v : V) : ∀ fs : List (Str × V), f ∈ (putF f v fs).map (·.1) ∧ ∀ g, g ∈ fs.map (·.1) → g ∈ (putF f v fs).map (·.1)
 | [] => ⟨by simp [putF], fun g h => by simp at h⟩
 | (k, x) :: r => by
  obtain ⟨i1, i2⟩ := keys_putF f v r
  rw [show putF f v ((k, x) :: r) = (if k = f then (k, v) :: r else (k, x) :: putF f v r) from rfl]
  by_cases hk : k = f
  · rw [if_pos hk]
    subst hk
    exact ⟨by simp, fun g h => by simpa using h⟩
  · rw [if_neg hk]
    refine ⟨?_, fun g h => ?_⟩
    · rw [List.map_cons]
      exact List.mem_cons_of_mem _ i1
    · rw [List.map_cons] at h ⊢
      rcases List.mem_cons.mp h with e | e
      · exact List.mem_cons.mpr (.inl e)
      · exact List.mem_cons_of_mem _ (i2 g e)
theorem length_putF (f : Str) (v : V) : ∀ fs : List (Str × V), (putF f v fs).length ≤ fs.length + 1
 | [] => by simp [putF]
 | (k, x) :: r => by
  have ih := length_putF f v r
  rw [show putF f v ((k, x) :: r) = (if k = f then (k, v) :: r else (k, x) :: putF f v r) from rfl]
  by_cases hk : k = f
  · rw [if_pos hk, List.length_cons, List.length_cons]; omega
  · rw [if_neg hk, List.length_cons, List.length_cons]; omega
theorem RelO.some_of {v : V} {o : Option Value} (r : RelO (some v) o) : ∃ u, o = some u ∧ RelV v u := by
 cases o with
 | none => exact (show False from r).elim
 | some u => exact ⟨u, rfl, r⟩
theorem RelO.none_of {o : Option Value} (r : RelO none o) : o = none := by
 cases o with
 | none => rfl
 | some u => exact (show False from r).elim
theorem handed_of {v : V} {u : Value} (r : RelV v u) : PySem.W.handedIn u = true := by
 cases v with
 | non => cases (show u = Value.none from r); rfl
 | bl b => cases (show u = Value.bool b from r); rfl
 | int i => obtain ⟨t, e⟩ := (show ∃ t, u = Value.int i t from r); cases e; rfl
 | str x => obtain ⟨t, e⟩ := (show ∃ t, u = Value.str x t from r); cases e; rfl
 | byt b => obtain ⟨t, e⟩ := (show ∃ t, u = Value.bytes b t from r); cases e; rfl
 | flt b => obtain ⟨t, e⟩ := (show ∃ t, u = Value.float b t from r); cases e; rfl
 | ref a => cases (show u = Value.ref a from r); rfl
 | ty n => cases (show u = Value.type n from r); rfl
section
variable {P : Program} {w : World} {H H' : Hp} {h h' : Heap} {a C dx : Addr} {fs fs' : List (Str × V)}
theorem ins_get (hok : HOk P w H h) (e : H a = some (.ins C dx fs)) : ∃ mA, ObjM h a dx C mA ∧ (∀ f, RelO (fs.lookup f) (mA f)) ∧ PySem.Within mA (fs.map (·.1)) ∧ fs.length ≤ 1000 ∧ H dx = some (.own a) := by
 obtain ⟨d, z, ne, ob, mA, n, r, q⟩ := (show ObjOk P w H h a (.ins C dx fs) from hok a _ e)
 exact ⟨mA, ⟨ob, n, ne⟩, r, q, z, d⟩
end
structure Cls (K : PySem.W.Frag) (C : Addr) : Prop where
 pg : PySem.W.plainGet K C Str.empty = true
 hd : PySem.W.hasDictIn K C = true
 po : PySem.W.plainOver K C = true
 sa : PySem.W.findIn K (.ref C) "__setattr__" = some (some (.builtin "object.__setattr__"))
theorem Cls.get {K : PySem.W.Frag} {C : Addr} (c : Cls K C) (f : Str) : PySem.W.plainGet K C f = true := c.pg
def NoAttr (K : PySem.W.Frag) (C : Addr) (f : Str) : Prop := PySem.W.findIn K (.ref C) f = some none
theorem NoAttr.taker {K : PySem.W.Frag} {C : Addr} {f : Str} (n : NoAttr K C f) : PySem.W.takerIn K C f = some none := by
 unfold PySem.W.takerIn
 rw [show PySem.W.findIn K (.ref C) f = some none from n]
 rfl
structure Meth (K : PySem.W.Frag) (C : Addr) (m : Str) (f : Addr) : Prop where
 at_ : PySem.W.findIn K (.ref C) m = some (some (.ref f))
 fn : PySem.W.isFn K (.ref f) = true
 kp : PySem.W.keepIn K (.ref f) = true
section
variable {X : Cx} {pins : List (Addr × Obj)} {σ : St} {H : Hp} {s : Shared} {a C dx : Addr} {fs : List (Str × V)} {f : Str} {v : V} {A : Around} {E : Value → Shared → Prop}
theorem getattr_ok {b : Bool} {Q : Value → Shared → Prop} (I : Inv X pins σ H s) (e : H a = some (.ins C dx fs)) (c : Cls X.K C) (n : NoAttr X.K C f) (l : fs.lookup f = some v)
    (h : ∀ u s', Inv X pins σ H s' → RelV v u → Q u s') : wpAny (model X.prog X.w) A (getAttr (.ref a) f b) Q E s := by
  obtain ⟨mA, O, r, _, _, _⟩ := ins_get I.hok e
  obtain ⟨u, hu, ru⟩ := RelO.some_of (v := v) (o := mA f) (by rw [← l]; exact r f)
  exact get_map I.kIn O (c.get f) c.hd n hu (handed_of ru) (h u _ (I.tok _) ru)
theorem getmeth_ok {m : Str} {g : Addr} {pl : Sem Bool} {Q : Value × List Value → Shared → Prop} (I : Inv X pins σ H s) (e : H a = some (.ins C dx fs)) (c : Cls X.K C) (k : Meth X.K C m g) (l : fs.lookup m = none)
    (h : Q (.ref g, [.ref a]) s) : wpAny (model X.prog X.w) A (getMethod (.ref a) m pl) Q E s := by
  obtain ⟨mA, O, r, _, _, _⟩ := ins_get I.hok e
  have hn : mA m = none := RelO.none_of (by rw [← l]; exact r m)
  exact get_meth I.kIn O (c.get m) k.at_ k.fn hn h
theorem setattr_ok {y : V} {u : Value} {Q : Unit → Shared → Prop} (I : Inv X pins σ H s) (e : H a = some (.ins C dx fs)) (c : Cls X.K C) (n : NoAttr X.K C f) (hl : fs.length < 1000) (ry : RelV y u)
    (h : ∀ s', Inv X pins σ (upd H a (.ins C dx (putF f y fs))) s' → Q () s') : wpAny (model X.prog X.w) A (setAttr (.ref a) f u) Q E s := by
  obtain ⟨mA, O, r, wi, _, ho⟩ := ins_get I.hok e
  have hz : (fs.map (·.1)).length ≤ sizeLine := by rw [List.length_map, sizeLine_eq]; omega
  refine set_map I.kIn O c.sa c.po n.taker c.hd wi hz fun h' O' sb => h _ ?_
  have hd : ∃ o, h'.get? dx = some o := let ⟨o, _, _, e', _⟩ := O'.ns; ⟨o, e'⟩
  refine I.write (x := a) (e := dx) (by rw [e]; exact True.intro) (.inr ho) (fun b q hb z => (sb.2 b hb).trans z) hd ?_
  refine ⟨by rw [upd_ne O.ne]; exact ho, ?_, O.ne, O'.obj, _, O'.ns, fun g => ?_, fun g hg => ?_⟩
  · have := length_putF f y fs; omega
  · show RelO ((putF f y fs).lookup g) (if g = f then some u else mA g)
    rw [lookup_putF]
    by_cases q : g = f
    · rw [if_pos q, if_pos q]; exact ry
    · rw [if_neg q, if_neg q]; exact r g
  · by_cases q : g = f
    · rw [q]; exact (keys_putF f y fs).1
    · refine (keys_putF f y fs).2 g (wi g fun z => hg ?_)
      show (if g = f then some u else mA g) = none
      rw [if_neg q]; exact z
theorem Inv.made (I : Inv X pins σ H s) : Inv X pins σ (upd (upd H s.heap.objs.size (.own (s.heap.objs.size + 1))) (s.heap.objs.size + 1) (.ins C s.heap.objs.size []))
    { s with heap := (s.heap.push PySem.W.emptyDict).push (PySem.W.instObj C s.heap.objs.size) } := by
  have e1 : (s.heap.push PySem.W.emptyDict).get? s.heap.objs.size = some PySem.W.emptyDict := Heap.get?_push_size s.heap rfl
  have e2 : ((s.heap.push PySem.W.emptyDict).push (PySem.W.instObj C s.heap.objs.size)).get? (s.heap.objs.size + 1) = some (PySem.W.instObj C s.heap.objs.size) := by
    have := Heap.get?_push_size (s.heap.push PySem.W.emptyDict) (o := PySem.W.instObj C s.heap.objs.size) rfl
    rwa [Heap.size_push] at this
  have e3 : (s.heap.push PySem.W.emptyDict).Ns s.heap.objs.size (fun _ => none) := ⟨PySem.W.emptyDict, #[], _, e1, rfl, (fun e he => absurd he (by simp)), fun _ => rfl⟩
  have I1 := I.laid (a := s.heap.objs.size) (o := .own (s.heap.objs.size + 1)) (h' := s.heap.push PySem.W.emptyDict) (t' := s.toks) (fun b u q => Heap.get?_push_of_some _ q) (Nat.le_refl _) ⟨_, e1⟩
  refine I1.laid (a := s.heap.objs.size + 1) (o := .ins C s.heap.objs.size []) (t' := s.toks) (fun b u q => Heap.get?_push_of_some _ q) (Nat.le_of_eq (Heap.size_push _ _)) ?_
  have ne : s.heap.objs.size ≠ s.heap.objs.size + 1 := Nat.ne_of_lt (Nat.lt_succ_self _)
  refine ⟨by rw [upd_ne ne, upd_same], Nat.zero_le _, ne, e2, fun _ => none, (Heap.Ns1.of_empty e3).at fun o q => Heap.get?_push_of_some _ q, fun _ => True.intro, fun y hy => absurd rfl hy⟩
theorem attr_of {prog : Program} {w : World} {env : Env} {e : Expr} {f : Str} {pos : Pos} {s : Shared} {Q : Value → Shared → Prop} (hb : attributeBase e f env (eval e env) = eval e env)
    (h : wpAny (model prog w) A (eval e env) (fun o s₁ => wpAny (model prog w) A (getAttr o f true) Q E s₁) E s) : wpAny (model prog w) A (eval (.Attribute e f pos) env) Q E s :=
  Attribute_any_ h (by rw [arm_eval_Attribute, hb])
end
noncomputable def tFld (K : PySem.W.Frag) (ta : TE) (f : Str) : TE := fun σ H Q => ta σ H fun x H1 => ∃ a C dx fs v, x = .ref a ∧ H1 a = some (.ins C dx fs) ∧ Cls K C ∧ NoAttr K C f ∧ fs.lookup f = some v ∧ Q v H1
noncomputable def sFld (K : PySem.W.Frag) (ta tv : TE) (f : Str) : TS := fun D σ H => tv σ H fun y H1 => ta σ H1 fun x H2 => ∃ a C dx fs, x = .ref a ∧ H2 a = some (.ins C dx fs) ∧ Cls K C ∧ NoAttr K C f ∧ fs.length < 1000 ∧
 D.nx σ (upd H2 a (.ins C dx (putF f y fs)))
def InOp (X : Cx) (op : Operator) (rd : V → V → Hp → VK → Prop) : Prop :=
 ∀ (pins : List (Addr × Obj)) (s : Shared) (σ : St) (H : Hp) (x y : V) (u v : Value) (Q : VK), Inv X pins σ H s → RelV x u → RelV y v → rd x y H Q → wpAny (model X.prog X.w) X.A (inplaceOp op u v) (EP X pins σ Q) X.xe s
section
variable {X : Cx} {o e value : Expr} {f : Str} {pos pos' tpos : Pos} {ta tv : TE}
theorem pe_fld (he : PE X e ta) (hb : attributeBase e f X.env (eval e X.env) = eval e X.env) : PE X (.Attribute e f pos) (tFld X.K ta f) := by
 intro pins s σ H Q I h
 refine attr_of hb (thn (he pins s σ H _ I h) fun u s1 ⟨x, H1, I1, rx, a, C, dx, fs, v, ex, ea, c, n, l, q⟩ => ?_)
 subst ex
 obtain rfl : u = Value.ref a := rx
 exact getattr_ok I1 ea c n l fun u' s2 I2 ru => ⟨v, H1, I2, ru, q⟩
theorem ps_fld (ha : PE X o ta) (hv : PE X value tv) (hs : swapsWith value (some (.Attribute o f pos')) pos.line X.env = pure false) : PS X (.Assign [.Attribute o f pos'] value pos) (sFld X.K ta tv f) := by
 intro pins s σ H D I h
 refine plainObj_wpAny_Assign_Attribute (thn (hv pins s σ H _ I h) fun u s1 ⟨y, H1, I1, ry, q⟩ => thn (ha pins s1 σ H1 _ I1 q) fun ov s2 ⟨x, H2, I2, rx, a, C, dx, fs, ex, ea, c, n, l, q2⟩ => ?_) hs
 subst ex
 obtain rfl : ov = Value.ref a := rx
 exact setattr_ok I2 ea c n l ry fun s3 I3 => ⟨σ, _, I3, q2⟩
def rAdd : V → V → Hp → VK → Prop := fun x y H Q => ∃ i j, x = .int i ∧ y = .int j ∧ Q (.int (i + j)) H
theorem in_add : InOp X .Add rAdd := by
 rintro pins s σ H x y u v Q I rx ry ⟨i, j, rfl, rfl, q⟩
 obtain ⟨t, rfl⟩ := (show ∃ t, u = Value.int i t from rx)
 obtain ⟨t', rfl⟩ := (show ∃ t', v = Value.int j t' from ry)
 exact PyProof.Rows.iadd_int ⟨.int (i + j), H, I.tok _, ⟨_, rfl⟩, q⟩
end
section
variable {X : Cx} {pins : List (Addr × Obj)} {σ : St} {H : Hp} {s : Shared} {A : Around} {E : Value → Shared → Prop} {Q : Value → Shared → Prop} {c : Value} {b : Bool}
end
end L2
namespace L2
open PySem PySem.Spec PyProof.Rows
structure Room (k : Nat) (A : Around) : Prop where
 hd : A.handled = none
 dp : A.depth + 3 * k + 5 < recursionLimit
 un : A.units + 16 * k + 200 < cLine
theorem Room.mono {j k : Nat} {A : Around} (r : Room k A) (h : j ≤ k) : Room j A := ⟨r.hd, by have := r.dp; omega, by have := r.un; omega⟩
theorem Room.deeper {k : Nat} {A : Around} (r : Room (k + 1) A) (env : Env) : Room k (A.deeper env) :=
 ⟨r.hd, by have := r.dp; show A.depth + 1 + 3 * k + 5 < _; omega, by have := r.un; show A.units + 3 + 16 * k + 200 < _; omega⟩
theorem make_depth {A : Around} {C : Addr} {us : List Value} {kw : List (Str × Value)} : (A.under (.builtin "type.__call__" ⟨.ref C :: us, kw⟩)).depth = A.depth + 1 := by
 first | rfl | simp [Around.under, Code.weight, Code.isCreation, Code.isGuard, Code.isCaller, Code.frames, Code.isFrame, guardIds]
theorem make_units {A : Around} {C : Addr} {us : List Value} {kw : List (Str × Value)} : (A.under (.builtin "type.__call__" ⟨.ref C :: us, kw⟩)).units = A.units + 1 := by
 first | rfl | simp [Around.under, Code.cUnits, Code.frames, Code.isFrame]
theorem Room.make {k : Nat} {A : Around} (r : Room (k + 1) A) (C : Addr) (us : List Value) (kw : List (Str × Value)) : Room k (A.under (.builtin "type.__call__" ⟨.ref C :: us, kw⟩)) :=
 ⟨r.hd, by have := r.dp; rw [make_depth]; omega, by have := r.un; rw [make_units]; omega⟩
theorem Room.depth {k : Nat} {A : Around} (r : Room k A) : A.depth < recursionLimit := by have := r.dp; omega
theorem Room.units {k : Nat} {A : Around} (r : Room k A) : A.units + 64 < cLine := by have := r.un; omega
noncomputable def tNil : TA := fun _ H Q => Q [] H
noncomputable def tCons (ta : TE) (tr : TA) : TA := fun σ H Q => ta σ H fun x H1 => tr σ H1 fun xs H2 => Q (x :: xs) H2
section
variable {X : Cx} {e : Expr} {es : List Expr} {te : TE} {t : TA} {pos : Pos}
theorem pa_nil : PA X [] tNil := fun _ _ _ _ H Q I h => Calls.spliced_nil ⟨[], H, I, .nil, h⟩
theorem pa_cons (ha : PE X e te) (hr : PA X es t) (hs : starEach (e :: es) X.env = (false, eval e X.env) :: starEach es X.env := by rfl) : PA X (e :: es) (tCons te t) := by
 intro pos pins s σ H Q I h
 rw [hs]
 show wpAny _ _ (spliced ((false, eval e X.env) :: backTo pos (starEach es X.env))) _ _ s
 refine Calls.spliced_cons (thn (ha pins s σ H _ I h) fun u s1 ⟨x, H1, I1, r1, q1⟩ => ?_)
 exact thn (hr pos pins s1 σ H1 _ I1 q1) fun us s2 ⟨xs, H2, I2, r2, q2⟩ => ⟨x :: xs, H2, I2, .cons r1 r2, q2⟩
noncomputable def tTup (t : TA) : TE := fun σ H Q => t σ H fun xs H1 => xs.length ≤ sizeLine ∧ ∀ p, H1 p = none → Q (.ref p) (upd H1 p (.tup xs))
noncomputable def tLst (t : TA) : TE := fun σ H Q => t σ H fun xs H1 => xs.length ≤ sizeLine ∧ ∀ p, H1 p = none → Q (.ref p) (upd H1 p (.lst xs))
theorem pe_tup {x1} (h : PA X es t) : PE X (.Tuple es x1 pos) (tTup t) := by
 intro pins s σ H Q I hq
 refine wpAny_Tuple_spliced (thn (h pos pins s σ H _ I hq) fun us s1 ⟨xs, H1, I1, r, z, q⟩ => ⟨by rw [← r.length]; exact z, ?_⟩)
 have hf : H1 s1.heap.objs.size = none := I1.hok.fresh (Nat.le_refl _)
 refine ⟨.ref s1.heap.objs.size, upd H1 s1.heap.objs.size (.tup xs), I1.laid (t' := s1.toks) (fun b u e => Heap.get?_push_of_some _ e) (Nat.le_refl _) ?_, rfl, q _ hf⟩
 exact ⟨z, us, r, ⟨_, Heap.get?_push_size _ rfl, rfl, _, rfl⟩⟩
theorem pe_lst (h : PA X es t) : PE X (.List es pos) (tLst t) := by
 intro pins s σ H Q I hq
 refine wpAny_List_spliced (thn (h pos pins s σ H _ I hq) fun us s1 ⟨xs, H1, I1, r, z, q⟩ => ⟨by rw [← r.length]; exact z, ?_⟩)
 have hf : H1 s1.heap.objs.size = none := I1.hok.fresh (Nat.le_refl _)
 refine ⟨.ref s1.heap.objs.size, upd H1 s1.heap.objs.size (.lst xs), I1.laid (t' := s1.toks) (fun b u e => Heap.get?_push_of_some _ e) (Nat.le_refl _) ?_, rfl, q _ hf⟩
 exact ⟨z, us, 0, r, Heap.get?_push_size _ rfl⟩
end
abbrev Sp := List V → Hp → VK → XK → Prop
abbrev CXT := List Env → Hp → Shared → XK → Value → Shared → Prop
structure Env0 (P : Program) (w : World) (K : PySem.W.Frag) (mg : Str → Option Value) (base : Heap) (A : Around) (outer : List Env) (s : Shared) (H : Hp) : Prop where
 frames : A.frames = some outer
 mod : Mod K mg base
 bs : ∀ b o, base.get? b = some o → s.heap.get? b = some o ∧ H b = none
 bsz : base.objs.size ≤ s.heap.objs.size
 funs : s.heap.FunFrames base outer
 frf : ∀ b ∈ frs outer, H b = none
 hok : HOk P w H s.heap
 bare : AllBare s.gens
def CE (outer : List Env) (P : Program) (w : World) (H : Hp) (s : Shared) (Q : VK) (u : Value) (s' : Shared) : Prop :=
 ∃ v H', s'.os = s.os ∧ AllBare s'.gens ∧ Un (frs outer) [] H H' s.heap s'.heap ∧ HOk P w H' s'.heap ∧ RelV v u ∧ Q v H'
def CR (CX : CXT) (outer : List Env) (P : Program) (w : World) (H : Hp) (s : Shared) (Q : VK) (E : XK) (r : Result) (s' : Shared) : Prop :=
 match r with
 | .ok (.ret u) => CE outer P w H s Q u s'
 | .ok _ => False
 | .error e => CX outer H s E e s'
structure FnOk (P : Program) (w : World) (K : PySem.W.Frag) (mg : Str → Option Value) (base : Heap) (CX : CXT) (k : Nat) (f : Addr) (fd : FuncData) (ps : List Str) (sp : Sp) : Prop where
 len : ∀ vs H Q E, sp vs H Q E → vs.length = ps.length
 run : ∀ (A : Around) (outer : List Env) (s : Shared) (H : Hp) (args : Args) (us : List Value) (vs : List V) (Q : VK) (E : XK), Room k A → Env0 P w K mg base A outer s H → BindsTo s fd args (ps.zip us) → Vals vs us → sp vs H Q E →
  codeAny (model P w) A (.call (.ref f) args) (CR CX outer P w H s Q E) s
theorem FnOk.imp {P : Program} {w : World} {K : PySem.W.Frag} {mg : Str → Option Value} {base : Heap} {CX : CXT} {k : Nat} {f : Addr} {fd : FuncData} {ps : List Str} {sp sp' : Sp} (F : FnOk P w K mg base CX k f fd ps sp)
    (h : ∀ vs H Q E, sp' vs H Q E → sp vs H Q E) : FnOk P w K mg base CX k f fd ps sp' :=
  ⟨fun vs H Q E q => F.len vs H Q E (h _ _ _ _ q), fun A outer s H args us vs Q E hr he hb hv hs => F.run A outer s H args us vs Q E hr he hb hv (h _ _ _ _ hs)⟩
theorem Env0.make {P : Program} {w : World} {K : PySem.W.Frag} {mg : Str → Option Value} {base : Heap} {A : Around} {outer : List Env} {s : Shared} {H : Hp} (e : Env0 P w K mg base A outer s H) (C : Addr) (us : List Value) (kw : List (Str × Value)) :
    Env0 P w K mg base (A.under (.builtin "type.__call__" ⟨.ref C :: us, kw⟩)) outer s H := ⟨by first | exact e.frames | (simpa [Around.under, Code.envs, Code.isFrame, pushEnvs] using e.frames), e.mod, e.bs, e.bsz, e.funs, e.frf, e.hok, e.bare⟩
section
variable {X : Cx} {pins : List (Addr × Obj)} {σ : St} {H : Hp} {s s' : Shared}
theorem Inv.env0 (I : Inv X pins σ H s) : Env0 X.prog X.w X.K X.mg X.base X.A X.stack s H :=
 ⟨I.ok.frames, I.ok.mod, I.bs, Nat.le_trans I.ok.bsz I.sz, I.stack, I.stkFree, I.hok, I.bare⟩
theorem Inv.after {Q : VK} {u : Value} (I : Inv X pins σ H s) (h : CE X.stack X.prog X.w H s Q u s') : EP X pins σ Q u s' := by
 obtain ⟨v, H', os, bare, un, hok, r, q⟩ := h
 obtain ⟨hh, g, d, t, os'⟩ := s'
 obtain rfl : os' = s.os := os
 exact ⟨v, H', I.call (h' := hh) (g' := g) (d' := d) (t' := t) (ch := []) un hok bare (fun b z => absurd z (by simp)), r, q⟩
end
noncomputable def tCall (sp : Sp) (dvs : List V) (E : XK) (t : TA) : TE := fun σ H Q => t σ H fun vs H1 => sp (vs ++ dvs) H1 Q E
noncomputable def tMeth (C : Addr) (m : Str) (sp : Sp) (dvs : List V) (E : XK) (ta : TE) (t : TA) : TE := fun σ H Q => ta σ H fun x H1 => ∃ a dx fs, x = .ref a ∧ H1 a = some (.ins C dx fs) ∧ fs.lookup m = none ∧
 t σ H1 fun vs H2 => sp (x :: (vs ++ dvs)) H2 Q E
noncomputable def tMake (C : Addr) (sp : Sp) (dvs : List V) (E : XK) (t : TA) : TE := fun σ H Q => t σ H fun vs H1 => ∀ x dx, H1 x = none → H1 dx = none → dx ≠ x →
 sp (.ref x :: (vs ++ dvs)) (upd (upd H1 dx (.own x)) x (.ins C dx [])) (fun v H2 => v = .non ∧ Q (.ref x) H2) E
def Binds (K : PySem.W.Frag) (fd : FuncData) (ps : List Str) (ds : List Value) : Prop :=
 ∀ (s : Shared) (us : List Value), K.In s.heap → (us ++ ds).length = ps.length → BindsTo s fd ⟨us, []⟩ (ps.zip (us ++ ds))
theorem Binds.all {K : PySem.W.Frag} {fd : FuncData} {ps : List Str} (h : ∀ us : List Value, us.length = ps.length → bindArgs fd ⟨us, []⟩ = pure (ps.zip us)) : Binds K fd ps [] := fun s us _ hl => by
 rw [List.append_nil] at hl ⊢
 exact .of_eq (h us hl)
def Passes (CX : CXT) (X : Cx) (E : XK) : Prop := ∀ (pins : List (Addr × Obj)) (σ : St) (H : Hp) (s : Shared) (e : Value) (s' : Shared), Inv X pins σ H s → CX X.stack H s E e s' → X.xe e s'
section
variable {X : Cx} {CX : CXT} {k : Nat} {f C : Addr} {fd : FuncData} {ps : List Str} {sp : Sp} {dvs : List V} {ds : List Value} {E : XK} {x m : Str} {p pos apos : Pos} {e o : Expr} {es : List Expr} {ta : TE} {t : TA}
theorem run_fn {pins : List (Addr × Obj)} {σ : St} {H : Hp} {s : Shared} {Q : VK} {us : List Value} {vs : List V} (F : FnOk X.prog X.w X.K X.mg X.base CX k f fd ps sp) (hr : Room k X.A) (hb : Binds X.K fd ps ds) (hd : Vals dvs ds) (hx : Passes CX X E)
    (I : Inv X pins σ H s) (r : Vals vs us) (h : sp (vs ++ dvs) H Q E) : wpAny (model X.prog X.w) X.A (call (.ref f) us) (EP X pins σ Q) X.xe s := by
  have r2 : Vals (vs ++ dvs) (us ++ ds) := r.append hd
  have hl : (us ++ ds).length = ps.length := by rw [← r2.length]; exact F.len _ _ _ _ h
  refine wpAny_call (codeAny_mono (F.run X.A X.stack s H ⟨us, []⟩ (us ++ ds) (vs ++ dvs) Q E hr I.env0 (hb s us I.kIn hl) r2 h) fun r s' hq => ?_)
  cases r with
  | error e => exact hx pins σ H s e s' I hq
  | ok fl =>
    cases fl with
    | ret u => exact I.after hq
    | next => exact False.elim hq
    | brk => exact False.elim hq
    | cont => exact False.elim hq
theorem pe_call (F : FnOk X.prog X.w X.K X.mg X.base CX k f fd ps sp) (hr : Room k X.A) (hg : Gl X x) (hm : X.mg x = some (.ref f)) (hk : PySem.W.keepIn X.K (.ref f) = true) (hb : Binds X.K fd ps ds) (hd : Vals dvs ds) (hx : Passes CX X E)
    (ha : PA X (e :: es) t) (hdb : (x == ("__debug__" : Str)) = false := by decide) (he : starEach (e :: es) X.env = (false, eval e X.env) :: starEach es X.env := by rfl) (hpl : (backTo pos (starEach es X.env)).any (·.1) = false := by rfl) :
    PE X (.Call (.Name x p) (e :: es) [] pos) (tCall sp dvs E t) := by
  intro pins s σ H Q I h
  refine wpAny_Call_Name_kw (ld_glob I hg hm ?_ hdb)
  refine PySem.W.callWith_K (h₀ := X.base) I.ok.mod.kin hk (thn (ha pos pins s σ H _ I h) fun us s1 ⟨vs, H1, I1, r, q⟩ => ⟨I1.kIn, ?_⟩) he hpl
  exact run_fn F hr hb hd hx I1 r q
theorem pe_meth {pl : Sem Bool} (he : PE X o ta) (c : Cls X.K C) (hm : Meth X.K C m f) (F : FnOk X.prog X.w X.K X.mg X.base CX k f fd ps sp) (hr : Room k X.A) (hb : Binds X.K fd ps ds) (hd : Vals dvs ds) (hx : Passes CX X E) (ha : PA X (e :: es) t)
    (hst : starEach (e :: es) X.env = (false, eval e X.env) :: starEach es X.env := by rfl) (hpl : (backTo pos (starEach es X.env)).any (·.1) = false := by rfl)
    (ht : eval (.Call (.Attribute o m apos) (e :: es) [] pos) X.env = (do
      let ov ← eval o X.env
      standAt apos.atName
      let (f, first) ← holding [ov] (getMethod ov m pl)
      callWith pos f first (backTo pos (starEach (e :: es) X.env)) (backToKw pos (keywordEach [] X.env))) := by rfl) :
    PE X (.Call (.Attribute o m apos) (e :: es) [] pos) (tMeth C m sp dvs E ta t) := by
  intro pins s σ H Q I h
  refine PySem.W.methodCall_KW (pl := pl) (thn (he pins s σ H _ I h) fun u s1 ⟨x, H1, I1, rx, a, dx, fs, ex, ea, l, q⟩ => ?_) ht
  subst ex
  obtain rfl : u = Value.ref a := rx
  refine getmeth_ok I1 ea c hm l ?_
  refine PySem.W.callWith_K (first := [.ref a]) (h₀ := X.base) I.ok.mod.kin hm.kp (thn (ha pos pins s1 σ H1 _ I1 q) fun us s2 ⟨vs, H2, I2, r, q2⟩ => ⟨I2.kIn, ?_⟩) hst hpl
  exact run_fn (us := .ref a :: us) (vs := .ref a :: vs) F hr hb hd hx I2 (.cons rfl r) q2
structure Mk (K : PySem.W.Frag) (C f : Addr) : Prop where
 makes : PySem.W.makesIn K C = true
 init : PySem.W.findIn K (.ref C) "__init__" = some (some (.ref f))
 fn : PySem.W.isFn K (.ref f) = true
 kp : PySem.W.keepIn K (.ref C) = true
theorem run_make {pins : List (Addr × Obj)} {σ : St} {H : Hp} {s : Shared} {Q : VK} {us : List Value} {vs : List V} (M : Mk X.K C f) (F : FnOk X.prog X.w X.K X.mg X.base CX k f fd ps sp) (hr : Room (k + 1) X.A) (hb : Binds X.K fd ps ds) (hd : Vals dvs ds)
    (hx : Passes CX X E) (I : Inv X pins σ H s) (r : Vals vs us)
    (h : ∀ x dx, H x = none → H dx = none → dx ≠ x → sp (.ref x :: (vs ++ dvs)) (upd (upd H dx (.own x)) x (.ins C dx [])) (fun v H2 => v = .non ∧ Q (.ref x) H2) E) :
    wpAny (model X.prog X.w) X.A (call (.ref C) us) (EP X pins σ Q) X.xe s := by
  have hq := h (s.heap.objs.size + 1) s.heap.objs.size (I.hok.fresh (Nat.le_succ _)) (I.hok.fresh (Nat.le_refl _)) (Nat.ne_of_lt (Nat.lt_succ_self _))
  have I2 := Inv.made (C := C) I
  have r2 : Vals (V.ref (s.heap.objs.size + 1) :: (vs ++ dvs)) (Value.ref (s.heap.objs.size + 1) :: (us ++ ds)) := .cons rfl (r.append hd)
  have hl : (Value.ref (s.heap.objs.size + 1) :: us ++ ds).length = ps.length := by
    have e := r2.length
    rw [F.len _ _ _ _ hq] at e
    exact e.symm
  refine wpAny_call (make_map (f := f) I.kIn M.makes M.init (beq_iff_eq.mp M.fn) (codeAny_mono (F.run _ X.stack _ _ ⟨Value.ref (s.heap.objs.size + 1) :: us, []⟩ (Value.ref (s.heap.objs.size + 1) :: (us ++ ds)) _ _ E (hr.make C us [])
    (I2.env0.make C us []) (hb _ (Value.ref (s.heap.objs.size + 1) :: us) I2.kIn hl) r2 hq) fun r s' hq' => ?_))
  cases r with
  | error e => exact hx pins σ _ _ e s' I2 hq'
  | ok fl =>
    cases fl with
    | ret u =>
      obtain ⟨v, H', I3, rv, ev, q3⟩ := I2.after hq'
      subst ev
      exact ⟨rv, ⟨V.ref (s.heap.objs.size + 1), H', I3, rfl, q3⟩⟩
    | next => exact False.elim hq'
    | brk => exact False.elim hq'
    | cont => exact False.elim hq'
theorem pe_make0 (M : Mk X.K C f) (F : FnOk X.prog X.w X.K X.mg X.base CX k f fd ps sp) (hr : Room (k + 1) X.A) (hg : Gl X x) (hm : X.mg x = some (.ref C)) (hb : Binds X.K fd ps ds) (hd : Vals dvs ds) (hx : Passes CX X E)
    (hdb : (x == ("__debug__" : Str)) = false := by decide) : PE X (.Call (.Name x p) [] [] pos) (tMake C sp dvs E tNil) := by
  intro pins s σ H Q I h
  refine wpAny_Call_Name_kw (ld_glob I hg hm ?_ hdb)
  exact PySem.W.callWith_K0 I.kIn M.kp (run_make (us := []) M F hr hb hd hx I .nil h)
end
section
variable {X : Cx} {CX : CXT} {k : Nat} {f C : Addr} {fd : FuncData} {ps ks : List Str} {sp : Sp} {E : XK} {x m : Str} {p pos apos kpos : Pos} {e o : Expr} {es : List Expr} {kws : List Keyword} {te ta : TE} {t tk : TA} {nm : Option Str}
variable {g : List Value → List Value → List Value} {gV : List V → List V → List V}
end
structure FnScope (N P : List Str) (sc : Scope) : Prop where
 kind : sc.kind = .function
 co : sc.isCoroutine = false
 gen : sc.isGenerator = false
 nd : N.Nodup
 pre : N.take P.length = P
 par : ∀ x ∈ P, sc.names.lookup x = some .local ∨ sc.names.lookup x = some .cell
 nofree : ∀ y ∈ sc.names, y.2 ≠ .free
theorem bindL_out {kindOf : Str → Option NameKind} {x : Str} : ∀ {binds : List (Str × Value)} {m : Str → Option Value}, (∀ v, (x, v) ∉ binds) → bindL kindOf binds m x = m x
 | [], _, _ => rfl
 | (n, v) :: r, m, h => by
  unfold bindL
  rw [bindL_out fun w hw => h w (List.mem_cons_of_mem _ hw)]
  split
  · have : x ≠ n := by rintro rfl; exact h v List.mem_cons_self
    simp [this]
  · rfl
theorem bindC_out {kindOf : Str → Option NameKind} {x : Str} : ∀ {binds : List (Str × Value)} {m : Str → Option Value}, (∀ v, (x, v) ∉ binds) → bindC kindOf binds m x = m x
 | [], _, _ => rfl
 | (n, v) :: r, m, h => by
  unfold bindC
  rw [bindC_out fun w hw => h w (List.mem_cons_of_mem _ hw)]
  split
  · rfl
  · have : x ≠ n := by rintro rfl; exact h v List.mem_cons_self
    simp [this]
theorem bindL_get {kindOf : Str → Option NameKind} {x : Str} {v : Value} : ∀ {P : List Str} {vs : List Value} {i : Nat} {m : Str → Option Value}, P.Nodup → P[i]? = some x → vs[i]? = some v → kindOf x = some .local →
    bindL kindOf (P.zip vs) m x = some v
  | [], _, _, _, _, h, _, _ => by simp at h
  | _ :: _, [], _, _, _, _, h, _ => by simp at h
  | p :: P, w :: vs, 0, m, nd, h1, h2, hk => by
    simp at h1 h2; subst h1; subst h2
    show bindL kindOf ((p, w) :: P.zip vs) m p = _
    unfold bindL
    rw [bindL_out fun v hv => (List.nodup_cons.mp nd).1 (List.of_mem_zip hv).1, if_pos hk]
    simp
  | p :: P, w :: vs, i + 1, m, nd, h1, h2, hk => by
    show bindL kindOf ((p, w) :: P.zip vs) m x = _
    unfold bindL
    exact bindL_get (i := i) (List.nodup_cons.mp nd).2 (by simpa using h1) (by simpa using h2) hk
theorem bindC_get {kindOf : Str → Option NameKind} {x : Str} {v : Value} : ∀ {P : List Str} {vs : List Value} {i : Nat} {m : Str → Option Value}, P.Nodup → P[i]? = some x → vs[i]? = some v → kindOf x ≠ some .local →
    bindC kindOf (P.zip vs) m x = some v
  | [], _, _, _, _, h, _, _ => by simp at h
  | _ :: _, [], _, _, _, _, h, _ => by simp at h
  | p :: P, w :: vs, 0, m, nd, h1, h2, hk => by
    simp at h1 h2; subst h1; subst h2
    show bindC kindOf ((p, w) :: P.zip vs) m p = _
    unfold bindC
    rw [bindC_out fun v hv => (List.nodup_cons.mp nd).1 (List.of_mem_zip hv).1, if_neg hk]
    simp
  | p :: P, w :: vs, i + 1, m, nd, h1, h2, hk => by
    show bindC kindOf ((p, w) :: P.zip vs) m x = _
    unfold bindC
    exact bindC_get (i := i) (List.nodup_cons.mp nd).2 (by simpa using h1) (by simpa using h2) hk
noncomputable def start (N : List Str) (vs : List V) : St := vs.map some ++ List.replicate (N.length - vs.length) none
noncomputable def cxOf (CX : CXT) (P : Program) (w : World) (K : PySem.W.Frag) (mg : Str → Option Value) (base : Heap) (N : List Str) (qual : Str) (scope : Scope) (f : Addr) (cd : Value) (A : Around) (outer : List Env) (s : Shared) (H : Hp) (E : XK) : Cx where
 prog := P
 w := w
 K := K
 mg := mg
 base := base
 A := A.deeper (envOfC qual scope s.heap.objs.size f cd)
 N := N
 s₀ := s
 H₀ := H
 env := envOfC qual scope s.heap.objs.size f cd
 outer := outer
 stack := envOfC qual scope s.heap.objs.size f cd :: outer
 ex := []
 calm := true
 fn := fun _ => true
 pn := []
 xe := fun e s' => wpAny (model P w) (A.deeper (envOfC qual scope s.heap.objs.size f cd)) (leaving (envOfC qual scope s.heap.objs.size f cd) e) (fun _ s'' => CX outer H s E e s'') (fun e' s'' => CX outer H s E e' s'') s'
theorem cell_has {sc : Scope} {n : Nat} {x : Str} (h : sc.names.lookup x = some .cell) : ∃ c, (cellsFrom n sc.names []).lookup x = some c := by
 have q := PySem.W.cellsFrom_some sc.names n [] (.inl h)
 exact Option.isSome_iff_exists.mp q
theorem inv_start {CX : CXT} {P : Program} {w : World} {K : PySem.W.Frag} {mg : Str → Option Value} {base : Heap} {N ps : List Str} {qual : Str} {scope : Scope} {f : Addr} {cd : Value} {A : Around} {outer : List Env} {s s1 : Shared} {H : Hp} {E : XK} {us : List Value} {vs : List V}
    (S : FnScope N ps scope) (hd : A.handled = none) (e0 : Env0 P w K mg base A outer s H) (hl : vs.length = ps.length) (r : Vals vs us)
    (x : InCallC s s.heap.objs.size (bindL (envOfC qual scope s.heap.objs.size f cd).kindOf (ps.zip us) fun _ => none) (cellsFrom (s.heap.objs.size + 1) scope.names []) (bindC (envOfC qual scope s.heap.objs.size f cd).kindOf (ps.zip us) fun _ => none) s1) :
    Inv (cxOf CX P w K mg base N qual scope f cd A outer s H E) [] (start N vs) H s1 := by
  have hpl : ps.length ≤ N.length := by have := congrArg List.length S.pre; rw [List.length_take] at this; omega
  obtain ⟨h1, tk, rfl, hk⟩ := x.done
  have noA : ∀ b : Addr, b ∉ (cxOf CX P w K mg base N qual scope f cd A outer s H E).ex := fun b z => absurd (show b ∈ ([] : List Addr) from z) (by simp)
  refine ⟨⟨e0.mod, S.kind, rfl, rfl, Nat.le_refl _, fun y z c h1 h2 => ?_, fun y hy => ?_, fun y c _ h => ?_, fun _ => hd, Around.frames_deeper e0.frames, .inr ⟨rfl, rfl⟩, fun b z => absurd z (noA b), e0.bs, e0.bsz, fun b _ _ => noA b, fun b z => absurd z (noA b), e0.funs, e0.frf⟩,
    rfl, e0.bare, Un.kept hk, ⟨_, x.toInCall.ns, fun i y v h1 h2 h3 => ?_⟩, fun y c h => ⟨_, x.cell y c h⟩, e0.hok.fresh (Nat.le_refl _), fun y c h => ?_, fun p hp => absurd (show p ∈ ([] : List (Addr × Obj)) from hp) (by simp), e0.hok.kept hk, ?_⟩
  · exact name_of_addr x.apart (PySem.mem_of_lookup h1) (PySem.mem_of_lookup h2)
  · have hy : scope.names.lookup y = some .cell ∨ scope.names.lookup y = some .free := hy
    rcases hy with hy | hy
    · exact cell_has hy
    · exact absurd rfl (S.nofree _ (PySem.mem_of_lookup hy))
  · exact Nat.le_of_lt (x.above y c (PySem.mem_of_lookup h))
  · have hi : i < vs.length := by
      unfold start at h2
      by_cases hi : i < vs.length
      · exact hi
      · rw [List.getElem?_append_right (by simpa using hi)] at h2
        rw [List.getElem?_replicate] at h2
        split at h2 <;> cases h2
    have ha : vs[i]? = some v := by
      unfold start at h2
      rw [List.getElem?_append_left (by simpa using hi), List.getElem?_map] at h2
      cases e : vs[i]? with
      | none => rw [e] at h2; cases h2
      | some a => rw [e] at h2; cases h2; rfl
    obtain ⟨u, hu, rv⟩ := r.get ha
    have hp : ps[i]? = some y := by
      rw [← S.pre, List.getElem?_take_of_lt (by omega)]; exact h1
    have ndP : ps.Nodup := by rw [← S.pre]; exact S.nd.sublist (List.take_sublist _ _)
    refine ⟨u, rv, ?_⟩
    rcases S.par y (List.mem_of_getElem? hp) with k | k
    · exact .inl ⟨k, bindL_get ndP hp hu k⟩
    · obtain ⟨c, e⟩ := cell_has (n := s.heap.objs.size + 1) k
      refine .inr ⟨.inl k, c, e, ?_⟩
      have q := x.cell y c e
      rw [bindC_get ndP hp hu (by show scope.names.lookup y ≠ _; rw [k]; decide)] at q
      exact q
  · exact e0.hok.fresh (Nat.le_of_lt (x.above y c (PySem.mem_of_lookup h)))
  · unfold start
    show _ = N.length
    rw [List.length_append, List.length_map, List.length_replicate]
    omega
theorem fn_of {CX : CXT} {P : Program} {w : World} {K : PySem.W.Frag} {mg : Str → Option Value} {base : Heap} {k : Nat} {f : Addr} {name qual : Str} {params : Arguments} {body : List Stmt} {scope : Scope} {dV kV doc pm cdv ct oc : Value} {an od : Option Addr}
    {osl : Array (Option Value)} {N ps : List Str} {sp : Sp} (lk : K.lookup f = some ⟨oc, od, .func (PySem.W.fnOf name qual params body scope dV kV doc pm an cdv ct), osl⟩) (hcd : PySem.W.codeIn K cdv qual = true) (S : FnScope N ps scope)
    (len : ∀ vs H Q E, sp vs H Q E → vs.length = ps.length)
    (hbody : ∀ (A : Around) (outer : List Env) (s : Shared) (H : Hp) (vs : List V) (Q : VK) (E : XK), Room k (A.deeper (envOfC qual scope s.heap.objs.size f cdv)) → sp vs H Q E →
      ∃ t, PSs (cxOf CX P w K mg base N qual scope f cdv A outer s H E) body t ∧ t { nx := fun _ H' => Q .non H', rt := Q } (start N vs) H) :
    FnOk P w K mg base CX (k + 1) f (PySem.W.fnOf name qual params body scope dV kV doc pm an cdv ct) ps sp := by
  refine ⟨len, fun A outer s H args us vs Q E hr e0 hb r hsp => ?_⟩
  have hl := len _ _ _ _ hsp
  have KX : K.In s.heap := e0.mod.kin.keeps fun b o e => (e0.bs b o e).1
  have lim : s.heap.NoLimit := e0.mod.nolimit.keeps fun b o e => (e0.bs b o e).1
  have hkind : ∀ y ∈ ps.zip us, scope.names.lookup y.1 = some .local ∨ (scope.names.lookup y.1 = some .cell ∧ ((cellsFrom (s.heap.objs.size + 1) scope.names []).lookup y.1).isSome = true) := fun ⟨n, v⟩ hy => by
    rcases S.par n (List.of_mem_zip hy).1 with q | q
    · exact .inl q
    · exact .inr ⟨q, PySem.W.cellsFrom_some _ _ _ (.inl q)⟩
  refine codeAny_call_function hr.depth (KX _ _ lk) rfl S.co S.gen rfl (PySem.W.codeRec_of KX hcd) (hb _ _ _ _ ?_)
  refine wpAny_newFunctionEnv_cells S.kind hkind fun env he s1 x => ?_
  subst he
  refine ⟨lim.keeps x.toInCall.keep, codeAny_func ?_⟩
  obtain ⟨t, ht, hq⟩ := hbody A outer s H vs Q E (hr.deeper _) hsp
  have I : Inv (cxOf CX P w K mg base N qual scope f cdv A outer s H E) [] (start N vs) H s1 := inv_start S hr.hd e0 hl r x
  refine wpAny_mono (ht [] s1 (start N vs) H _ I hq) (fun fl s' hs => ?_) fun e s' hs => hs
  have fin : ∀ {σ' : St} {H' : Hp} {v : V} {u : Value}, Inv (cxOf CX P w K mg base N qual scope f cdv A outer s H E) [] σ' H' s' → RelV v u → Q v H' → CE outer P w H s Q u s' :=
    fun {σ' H' v u} J rv q => ⟨v, H', J.os, J.bare, J.base, J.hok, rv, q⟩
  cases fl with
  | ret u =>
    obtain ⟨v, σ', H', J, rv, q⟩ := hs
    exact fin J rv q
  | next =>
    obtain ⟨σ', H', J, q⟩ := hs
    exact fin (v := V.non) (u := Value.none) J rfl q
  | brk =>
    obtain ⟨_, _, _, q⟩ := hs
    exact False.elim q
  | cont =>
    obtain ⟨_, _, _, q⟩ := hs
    exact False.elim q
end L2
namespace L2
open PySem PySem.Spec PyProof.Rows
section
variable {X : Cx} {x : Str} {p pos : Pos} {e : Expr} {es : List Expr} {t : TA} {id T : String} {r : List V → Hp → VK → Prop}
def tCB (r : List V → Hp → VK → Prop) (t : TA) : TE := fun σ H Q => t σ H fun vs H1 => r vs H1 Q
theorem pe_callB (hc : CallR X (.builtin id) r) (hg : Gl X x) (hm : X.mg x = none) (hv : bootBuiltins x = some (.builtin id)) (ha : PA X (e :: es) t) (hn : x ≠ "__name__" := by decide) (hdb : (x == ("__debug__" : Str)) = false := by decide)
    (he : starEach (e :: es) X.env = (false, eval e X.env) :: starEach es X.env := by rfl) (hpl : (backTo pos (starEach es X.env)).any (·.1) = false := by rfl) : PE X (.Call (.Name x p) (e :: es) [] pos) (tCB r t) := by
  intro pins s σ H Q I h
  refine wpAny_Call_Name_kw (ld_blt I hg hm hv ?_ hn hdb)
  exact PyProof.Rows.callWith_builtin1 (thn (ha pos pins s σ H _ I h) fun us s1 ⟨vs, H1, I1, r1, q1⟩ => hc pins s1 σ H1 vs us Q I1 r1 q1) he hpl
theorem pe_callTy (hc : CallR X (.type T) r) (hg : Gl X x) (hm : X.mg x = none) (hv : bootBuiltins x = some (.type T)) (ha : PA X (e :: es) t) (hn : x ≠ "__name__" := by decide) (hdb : (x == ("__debug__" : Str)) = false := by decide)
    (he : starEach (e :: es) X.env = (false, eval e X.env) :: starEach es X.env := by rfl) (hpl : (backTo pos (starEach es X.env)).any (·.1) = false := by rfl) : PE X (.Call (.Name x p) (e :: es) [] pos) (tCB r t) := by
  intro pins s σ H Q I h
  refine wpAny_Call_Name_kw (ld_blt I hg hm hv ?_ hn hdb)
  exact PyProof.Rows.callWith_type1 (thn (ha pos pins s σ H _ I h) fun us s1 ⟨vs, H1, I1, r1, q1⟩ => hc pins s1 σ H1 vs us Q I1 r1 q1) he hpl
end
end L2
namespace HT
open PySem PyProof.Rows
section
open PySem.SeqAt
open PySem.AutoSeq1 (wpAny_loadPart')
open PySem.MeetsSeq PySem.MeetsSeq2 PySem.MeetsSeq3
end
section
variable {prog : Program} {w : World} {A : Around} {E : Value → Shared → Prop} {s : Shared}
noncomputable def sIx (n d : Nat) : Option Int → Nat
 | none => d
 | some v => if v < 0 then (v + (n : Int)).toNat else min v.toNat n
theorem sIx_none (n d : Nat) : sIx n d none = d := rfl
theorem sIx_nat (n d k : Nat) : sIx n d (some (k : Int)) = min k n := by
 show (if (k : Int) < 0 then ((k : Int) + (n : Int)).toNat else min (k : Int).toNat n) = min k n
 rw [if_neg (by omega), Int.toNat_natCast]
theorem sIx_le (n d : Nat) (hd : d ≤ n) (o : Option Int) : sIx n d o ≤ n := by
 cases o with
 | none => exact hd
 | some v =>
  show (if v < 0 then (v + (n : Int)).toNat else min v.toNat n) ≤ n
  by_cases hv : v < 0
  · rw [if_pos hv]; omega
  · rw [if_neg hv]; exact Nat.min_le_right _ _
theorem clip_eq (v : Int) (n d : Nat) : (if v < 0 then max (v + (n : Int)) 0 else min v (n : Int)) = ((sIx n d (some v) : Nat) : Int) := by
 show (if v < 0 then max (v + (n : Int)) 0 else min v (n : Int)) = (((if v < 0 then (v + (n : Int)).toNat else min v.toNat n) : Nat) : Int)
 by_cases hv : v < 0
 · simp only [if_pos hv]; omega
 · simp only [if_neg hv]; omega
theorem adjust_gen (lo hi : Option Int) (n : Nat) : Builtin.Slice.sliceAdjust lo hi 1 (n : Int) = (((sIx n 0 lo : Nat) : Int), ((sIx n n hi : Nat) : Int)) := by
 have h1 : ¬ ((1 : Int) < 0) := by omega
 unfold Builtin.Slice.sliceAdjust
 simp only [h1, if_false]
 refine Prod.ext ?_ ?_
 · cases lo with
   | none => rfl
   | some v => exact clip_eq v n 0
 · cases hi with
   | none => rfl
   | some v => exact clip_eq v n n
theorem places_gen (i j : Nat) : Builtin.Slice.slicePlaces (i : Int) (j : Int) 1 = j - i := by
 unfold Builtin.Slice.slicePlaces
 have h1 : (1 : Int) > 0 := by omega
 simp only [h1, if_true, Int.ediv_one]
 split <;> omega
theorem slicePart_ {v : Value} {o : Option Int} {Q : Option Int → Shared → Prop} (p : IsPart v o) (h : Q o s) : wpAny (model prog w) A (Builtin.Slice.slicePartIndex v) Q E s := by
 cases p with
 | none => exact slicePart_none h
 | int i t => exact slicePart_int h
theorem sliceApplied_gen {sl : Addr} {vl vu : Value} {lo hi : Option Int} {n : Nat} {Q : Int × Int × Nat → Shared → Prop} (hs : s.heap.IsSliceOf sl vl vu .none) (pl : IsPart vl lo) (pu : IsPart vu hi)
    (h : Q (((sIx n 0 lo : Nat) : Int), 1, sIx n n hi - sIx n 0 lo) s) : wpAny (model prog w) A (Builtin.Slice.sliceApplied (.ref sl) (pure (n : Int))) Q E s := by
  obtain ⟨os, hos, hcs, hds⟩ := id hs
  unfold Builtin.Slice.sliceApplied Builtin.Slice.sliceFields
  refine wpAny_bind (wpAny_bind (wpAny_field hos hds (x := vl) rfl (wpAny_bind (wpAny_field hos hds (x := vu) rfl (wpAny_bind (wpAny_field hos hds (x := .none) rfl (wpAny_pure ?_)))))))
  refine wpAny_bind (slicePart_none ?_)
  show wpAny _ _ (if ((1 : Int) == 0) = true then _ else _) _ _ s
  rw [if_neg (by decide)]
  refine wpAny_bind (slicePart_ pl (wpAny_bind (slicePart_ pu (wpAny_bind (wpAny_pure ?_)))))
  show wpAny _ _ (match Builtin.Slice.sliceAdjust lo hi 1 (n : Int) with | (lo, hi) => pure (lo, (1 : Int), Builtin.Slice.slicePlaces lo hi 1)) _ _ s
  rw [adjust_gen lo hi n]
  show wpAny _ _ (pure (((sIx n 0 lo : Nat) : Int), (1 : Int), Builtin.Slice.slicePlaces ((sIx n 0 lo : Nat) : Int) ((sIx n n hi : Nat) : Int) 1)) _ _ s
  rw [places_gen]
  exact wpAny_pure h
theorem pick_gen (xs : Array Value) (i k : Nat) : ((List.range k).filterMap fun (m : Nat) => xs[((i : Int) + (m : Int) * 1).toNat]?).toArray = ((xs.toList.drop i).take k).toArray := by
 have e : (fun (m : Nat) => xs[((i : Int) + (m : Int) * 1).toNat]?) = fun m => xs[i + m]? := by
  funext m
  have : ((i : Int) + (m : Int) * 1).toNat = i + m := by omega
  rw [this]
 rw [e]
 have := pick_run xs i k
 rw [List.filterMap_map] at this
 have e2 : ((fun x => xs[x]?) ∘ fun x => i + x) = fun m => xs[i + m]? := rfl
 rw [e2] at this
 rw [this]
theorem getItem_tuple_cut {t sl : Addr} {items : Array Value} {vl vu : Value} {lo hi : Option Int} {Q : Value → Shared → Prop} (ht : IsTup s.heap t items) (hs : s.heap.IsSliceOf sl vl vu .none) (pl : IsPart vl lo) (pu : IsPart vu hi)
    (hw : ¬ (sIx items.size 0 lo = 0 ∧ sIx items.size items.size hi = items.size))
    (h : Q (.ref s.heap.objs.size) { s with heap := s.heap.push { cls := .type "tuple", data := .seq ((items.toList.drop (sIx items.size 0 lo)).take (sIx items.size items.size hi - sIx items.size 0 lo)).toArray } })
    (hsz : items.size ≤ sizeLine) : wpAny (model prog w) A (getItem (.ref t) (.ref sl)) Q E s := by
  have htake : sizeOk (.seq ((items.toList.drop (sIx items.size 0 lo)).take (sIx items.size items.size hi - sIx items.size 0 lo)).toArray) := by
    show ((items.toList.drop (sIx items.size 0 lo)).take (sIx items.size items.size hi - sIx items.size 0 lo)).toArray.size ≤ sizeLine
    rw [List.size_toArray, List.length_take, List.length_drop, Array.length_toList]
    omega
  have hj : sIx items.size items.size hi ≤ items.size := sIx_le _ _ (Nat.le_refl _) hi
  obtain ⟨os, hos, hcs, hds⟩ := id hs
  have hTs : s.TypeIs (.ref sl) "slice" := ⟨os, hos, hcs⟩
  unfold getItem
  try with_reducible refine wpAny_holding ?_
  first | refine wpAny_bind (wpAny_pure ?_) | skip
  refine wpAny_bind (wpAny_sequenceKey ht.typeIs (by decide) ?_)
  refine wpAny_bind (wpAny_callSpecial?_slot (name := Str.ofString "__getitem__") ht.typeIs PyProof.Rows.slot_tuple_getitem
    (wpAny_call_entry PyProof.Rows.slot_tuple_getitem ht.typeIs entry_tuple_getitem ?_ (args_tuple_getitem _ _)))
  show wpAny _ _ (Builtin.Tuple.tupleItemsOf (.ref t) >>= _) _ _ s
  refine wpAny_bind (tupleItemsOf_ ht ?_)
  refine wpAny_bind (wpAny_typeOf hTs ?_)
  rw [if_pos (by decide)]
  refine wpAny_bind (sliceApplied_gen hs pl pu ?_)
  have hno : ¬ ((((sIx items.size 0 lo : Nat) : Int) == 0 && (1 : Int) == 1 && (sIx items.size items.size hi - sIx items.size 0 lo) == items.size) = true) := by
    intro q
    rw [Bool.and_eq_true, Bool.and_eq_true] at q
    have q1 : ((sIx items.size 0 lo : Nat) : Int) = 0 := eq_of_beq q.1.1
    have q2 : sIx items.size items.size hi - sIx items.size 0 lo = items.size := eq_of_beq q.2
    exact hw ⟨by omega, by omega⟩
  show wpAny _ _ (if (((sIx items.size 0 lo : Nat) : Int) == 0 && (1 : Int) == 1 && (sIx items.size items.size hi - sIx items.size 0 lo) == items.size) = true then _ else _) _ _ s
  rw [if_neg hno, pick_gen]
  first
    | exact wpAny_bind (m := Builtin.Tuple.tupleExact _) (wpAny_newObj_type (wpAny_pure ⟨_, rfl, wpAny_pure h⟩) htake)
    | exact wpAny_bind (m := Builtin.Tuple.tupleExact _) (wpAny_newObj_type (wpAny_bind (wpAny_pure (wpAny_pure ⟨_, rfl, wpAny_pure h⟩))) htake)
    | exact wpAny_bind (wpAny_bind (m := Builtin.Tuple.tupleExact _) (wpAny_newObj_type (wpAny_pure (wpAny_pure ⟨_, rfl, wpAny_pure h⟩)) htake))
    | exact wpAny_bind (wpAny_bind (m := Builtin.Tuple.tupleExact _) (wpAny_newObj_type (wpAny_pure ⟨_, rfl, wpAny_pure h⟩) htake))
end
end HT
namespace L2
open PySem PySem.Spec PyProof.Rows
abbrev TO := St → Hp → (Option Int → Hp → Prop) → Prop
def PO (X : Cx) (e : Option Expr) (t : TO) : Prop :=
 ∀ (pins : List (Addr × Obj)) (s : Shared) (σ : St) (H : Hp) (Q : Option Int → Hp → Prop), Inv X pins σ H s → t σ H Q →
  wpAny (model X.prog X.w) X.A (evalPart e X.env) (fun u s' => ∃ o H', Inv X pins σ H' s' ∧ IsPart u o ∧ Q o H') X.xe s
noncomputable def tNoPart : TO := fun _ H Q => Q none H
noncomputable def tPart (t : TE) : TO := fun σ H Q => t σ H fun x H1 => ∃ i, x = .int i ∧ Q (some i) H1
section
variable {X : Cx} {e : Expr} {te : TE} {lo hi : Option Expr} {tl th : TO} {pos p2 : Pos}
theorem po_none : PO X none tNoPart := by
 intro pins s σ H Q I h
 rw [evalPart_none]
 exact wpAny_pure ⟨none, H, I, .none, h⟩
theorem po_some (h : PE X e te) : PO X (some e) (tPart te) := by
 intro pins s σ H Q I hw
 rw [evalPart_some]
 refine thn (h pins s σ H _ I hw) fun u s1 ⟨x, H1, I1, r1, q1⟩ => ?_
 obtain ⟨i, rfl, q⟩ := q1
 obtain ⟨t, rfl⟩ := r1
 exact ⟨some i, H1, I1, .int i t, q⟩
def SlR (X : Cx) (r : V → Option Int → Option Int → Hp → VK → Prop) : Prop :=
 ∀ (pins : List (Addr × Obj)) (s : Shared) (σ : St) (H : Hp) (x : V) (v vl vu : Value) (lo hi : Option Int) (sl : Addr) (Q : VK), Inv X pins σ H s → RelV x v → s.heap.IsSliceOf sl vl vu .none → IsPart vl lo → IsPart vu hi → r x lo hi H Q →
  ∃ T id, typeLookup (.type T) "__getitem__" = pure (some (.builtin id)) ∧ s.TypeIs v T ∧ wpAny (model X.prog X.w) X.A (getItem v (.ref sl)) (EP X pins σ Q) X.xe s
theorem SlR.or {r r' : V → Option Int → Option Int → Hp → VK → Prop} (h : SlR X r) (h' : SlR X r') : SlR X (fun x lo hi H Q => r x lo hi H Q ∨ r' x lo hi H Q) := by
 intro pins s σ H x v vl vu lo hi sl Q I rx hs pl pu q
 rcases q with q | q
 · exact h pins s σ H x v vl vu lo hi sl Q I rx hs pl pu q
 · exact h' pins s σ H x v vl vu lo hi sl Q I rx hs pl pu q
def tSl (r : V → Option Int → Option Int → Hp → VK → Prop) (te : TE) (tl th : TO) : TE := fun σ H Q => te σ H fun x H1 => tl σ H1 fun l H2 => th σ H2 fun u H3 => r x l u H3 Q
theorem pe_slice {r : V → Option Int → Option Int → Hp → VK → Prop} (hr : SlR X r) (he : PE X e te) (hl : PO X lo tl) (hu : PO X hi th) : PE X (.Subscript e (.Slice lo hi none p2) pos) (tSl r te tl th) := by
 intro pins s σ H Q I h
 refine Subscript_ (thn (he pins s σ H _ I h) fun v s1 ⟨x, H1, I1, r1, q1⟩ => ?_)
 refine wpAny_Slice (thn (hl pins s1 σ H1 _ I1 q1) fun vl s2 ⟨l, H2, I2, pl, q2⟩ => thn (hu pins s2 σ H2 _ I2 q2) fun vu s3 ⟨u, H3, I3, pu, q3⟩ => ?_)
 rw [evalPart_none]
 refine wpAny_pure ?_
 have I4 : Inv X pins σ H3 { s3 with heap := s3.heap.push { cls := .type "slice", data := .fields #[vl, vu, .none] } } := I3.kept (t' := s3.toks) fun b ob q => Heap.get?_push_of_some _ q
 obtain ⟨T, id, hT, ht, hg⟩ := hr pins { s3 with heap := s3.heap.push { cls := .type "slice", data := .fields #[vl, vu, .none] } } σ H3 x v vl vu l u s3.heap.objs.size Q I4 r1 (Heap.IsSliceOf.new ..) pl pu q3
 show wpAny (model X.prog X.w) X.A (subscriptTail e (.Slice lo hi none p2) v (.ref s3.heap.objs.size)) (EP X pins σ Q) X.xe { s3 with heap := s3.heap.push { cls := .type "slice", data := .fields #[vl, vu, .none] } }
 exact tail_any (ops := [.ref s3.heap.objs.size, v]) ht hT hg (by with_unfolding_all rfl)
noncomputable def cutV (xs : List V) (lo hi : Option Int) : List V := (xs.drop (HT.sIx xs.length 0 lo)).take (HT.sIx xs.length xs.length hi - HT.sIx xs.length 0 lo)
theorem cutV_length (xs : List V) (lo hi : Option Int) : (cutV xs lo hi).length ≤ xs.length := by
 unfold cutV
 rw [List.length_take, List.length_drop]
 omega
def rSlT (K : PySem.W.Frag) : V → Option Int → Option Int → Hp → VK → Prop := fun x lo hi H Q => ∃ a xs, x = .ref a ∧ SqT K H a xs ∧
 ¬ (HT.sIx xs.length 0 lo = 0 ∧ HT.sIx xs.length xs.length hi = xs.length) ∧ ∀ p, H p = none → Q (.ref p) (upd H p (.tup (cutV xs lo hi)))
theorem sl_tup : SlR X (rSlT X.K) := by
 intro pins s σ H x v vl vu lo hi sl Q I rx hs pl pu h
 obtain ⟨a, xs, rfl, hx, hw, q⟩ := h
 cases rx
 obtain ⟨its, r, ht, hz⟩ := I.tuple hx
 have hlen : its.toArray.size = xs.length := by rw [List.size_toArray]; exact r.length.symm
 refine ⟨"tuple", _, PyProof.Rows.slot_tuple_getitem.lookup, ht.typeIs, ?_⟩
 refine HT.getItem_tuple_cut ht hs pl pu (by rw [hlen]; exact hw) ?_ (by rw [hlen]; exact hz)
 rw [hlen]
 refine ⟨.ref s.heap.objs.size, _, I.laid (t' := s.toks) (o := .tup (cutV xs lo hi)) (fun b ob q => Heap.get?_push_of_some _ q) (Nat.le_refl _) ?_, rfl, q _ (I.hok.fresh (Nat.le_refl _))⟩
 exact ⟨Nat.le_trans (cutV_length xs lo hi) hz, _, (r.drop (HT.sIx xs.length 0 lo)).take (HT.sIx xs.length xs.length hi - HT.sIx xs.length 0 lo), IsTup.new _ _⟩
end
end L2
namespace L2
open PySem PySem.Spec PyProof.Rows
noncomputable def ixN (n : Nat) (i : Int) : Option Nat := if 0 ≤ i then (if i < n then some i.toNat else none) else if -(n : Int) ≤ i then some (i + n).toNat else none
def atI {α : Type} (xs : List α) (i : Int) : Option α := (ixN xs.length i).bind fun j => xs[j]?
theorem ixN_seq {n : Nat} {i : Int} {j : Nat} (h : ixN n i = some j) : seqIndex? i n = some j ∧ j < n ∧ -(n : Int) ≤ i ∧ i < n := by
 unfold ixN at h
 by_cases h0 : 0 ≤ i
 · rw [if_pos h0] at h
   by_cases h1 : i < n
   · rw [if_pos h1] at h
     have e : i.toNat = j := Option.some.inj h
     exact ⟨by rw [seqIndex_of h0 h1, e], by omega, by omega, h1⟩
   · rw [if_neg h1] at h; cases h
 · rw [if_neg h0] at h
   by_cases h1 : -(n : Int) ≤ i
   · rw [if_pos h1] at h
     have e : (i + n).toNat = j := Option.some.inj h
     exact ⟨by rw [seqIndex_neg (by omega) h1, e], by omega, h1, by omega⟩
   · rw [if_neg h1] at h; cases h
theorem atI_get {α : Type} {xs : List α} {i : Int} {v : α} (h : atI xs i = some v) : ∃ j, seqIndex? i xs.length = some j ∧ xs[j]? = some v ∧ j < xs.length ∧ -(xs.length : Int) ≤ i ∧ i < xs.length := by
 unfold atI at h
 cases e : ixN xs.length i with
 | none => rw [e] at h; cases h
 | some j =>
  rw [e] at h
  obtain ⟨h1, h2, h3, h4⟩ := ixN_seq e
  exact ⟨j, h1, h, h2, h3, h4⟩
def PlainIx (b : Expr) : Prop := ∀ o i, subscripted b false o i = operate [o, i] (getItem o i)
def IxR (X : Cx) (r : R2) : Prop :=
 ∀ (value slice : Expr) (pins : List (Addr × Obj)) (s : Shared) (σ : St) (H : Hp) (x y : V) (v u : Value) (Q : VK), Inv X pins σ H s → RelV x v → RelV y u → r x y H Q →
  subscripted slice false v u = operate [v, u] (getItem v u) → wpAny (model X.prog X.w) X.A (subscriptTail value slice v u) (EP X pins σ Q) X.xe s
def MtR (X : Cx) (id : String) (r : V → List V → Hp → VK → Prop) : Prop :=
 ∀ (pins : List (Addr × Obj)) (s : Shared) (σ : St) (H : Hp) (x : V) (xs : List V) (v : Value) (us : List Value) (Q : VK), Inv X pins σ H s → RelV x v → Vals xs us → r x xs H Q →
  wpAny (model X.prog X.w) X.A (call (.builtin id) (v :: us)) (EP X pins σ Q) X.xe s
section
variable {X : Cx} {a b : Expr} {ta tb : TE} {pos : Pos}
theorem IxR.or {r r' : R2} (h : IxR X r) (h' : IxR X r') : IxR X (fun x y H Q => r x y H Q ∨ r' x y H Q) := by
 intro value slice pins s σ H x y v u Q I rx ry q hs
 rcases q with q | q
 · exact h value slice pins s σ H x y v u Q I rx ry q hs
 · exact h' value slice pins s σ H x y v u Q I rx ry q hs
theorem pe_ix {r : R2} (hr : IxR X r) (ha : PE X a ta) (hb : PE X b tb) (hs : PlainIx b) : PE X (.Subscript a b pos) (tOp r ta tb) := by
 intro pins s σ H Q I h
 exact Subscript_ (binT ha hb I h fun v u s2 x y H2 I2 rx ry q => hr a b pins s2 σ H2 x y v u Q I2 rx ry q (hs _ _))
noncomputable def rIxL (K : PySem.W.Frag) : R2 := fun x y H Q => ∃ p xs i v, x = .ref p ∧ y = .int i ∧ SqL K H p xs ∧ atI xs i = some v ∧ Q v H
noncomputable def rIxT (K : PySem.W.Frag) : R2 := fun x y H Q => ∃ p xs i v, x = .ref p ∧ y = .int i ∧ SqT K H p xs ∧ atI xs i = some v ∧ Q v H
noncomputable def rIxS : R2 := fun x y H Q => ∃ z i c, x = .str z ∧ y = .int i ∧ z.length ≤ sizeLine ∧ atI z.cps.toList i = some c ∧ Q (.str ⟨#[c]⟩) H
theorem ix_list : IxR X (rIxL X.K) := by
 intro value slice pins s σ H x y v u Q I rx ry h hs
 obtain ⟨p, xs, i, z, rfl, rfl, hq, he, q⟩ := h
 cases rx
 obtain ⟨t, rfl⟩ := ry
 obtain ⟨its, r, pl, hz⟩ := I.list hq
 obtain ⟨j, h1, h2, h3, h4, h5⟩ := atI_get he
 obtain ⟨w, ew, rw'⟩ := r.get h2
 have hl := r.length
 have hn := line63
 have fin : EP X pins σ Q w s := ⟨z, H, I, rw', q⟩
 by_cases h0 : 0 ≤ i
 · have hj : i.toNat = j := by
    rw [seqIndex_of h0 h5] at h1
    exact Option.some.inj h1
   exact item_listR pl.isList h0 (by omega) (by rw [hj]; simpa using ew) fin hs
 · have hj : (i + (its.toArray.size : Int)).toNat = j := by
    rw [seqIndex_neg (by omega) h4] at h1
    rw [List.size_toArray, ← hl]
    exact Option.some.inj h1
   exact subscriptTail_builtinR (x := w) pl.isList.typeIs slot_list_getitem.lookup
    (wpAny_getItem_list_neg (Q := fun r s' => r = w ∧ EP X pins σ Q r s') pl.isList (by omega) (by rw [List.size_toArray] <;> omega) (by omega) (by rw [hj]; simpa using ew) ⟨rfl, fin⟩) hs
theorem ix_tup : IxR X (rIxT X.K) := by
 intro value slice pins s σ H x y v u Q I rx ry h hs
 obtain ⟨p, xs, i, z, rfl, rfl, hq, he, q⟩ := h
 cases rx
 obtain ⟨t, rfl⟩ := ry
 obtain ⟨its, r, pl, hz⟩ := I.tuple hq
 obtain ⟨j, h1, h2, h3, h4, h5⟩ := atI_get he
 obtain ⟨w, ew, rw'⟩ := r.get h2
 have hl := r.length
 have hn := line63
 have fin : EP X pins σ Q w s := ⟨z, H, I, rw', q⟩
 exact subscriptTail_builtinR (x := w) pl.typeIs slot_tuple_getitem.lookup
  (getItem_tuple (j := j) (Q := fun r s' => r = w ∧ EP X pins σ Q r s') pl (by omega) (by omega) (by rw [List.size_toArray, ← hl]; exact h1) (by simpa using ew) ⟨rfl, fin⟩) hs
theorem ix_str : IxR X rIxS := by
 intro value slice pins s σ H x y v u Q I rx ry h hs
 obtain ⟨z, i, c, rfl, rfl, hz, he, q⟩ := h
 obtain ⟨t, rfl⟩ := rx
 obtain ⟨t', rfl⟩ := ry
 obtain ⟨j, h1, h2, h3, h4, h5⟩ := atI_get he
 have hl : z.cps.toList.length = z.length := by simp [Str.length]
 rw [hl] at h1 h4 h5
 have hn := line63
 exact tail_any (typeIs_str s z t) slot_str_getitem.lookup (getItem_str (c := c) (by
  have e1 : decide (i < -(2 ^ 63 : Int)) = false := decide_eq_false (by omega)
  have e2 : decide (i ≥ 2 ^ 63) = false := decide_eq_false (by omega)
  rw [e1, e2, Bool.or_false]) (by rw [h1]; simpa using h2) ⟨.str ⟨#[c]⟩, H, I.tok _, ⟨_, rfl⟩, q⟩) hs
noncomputable def rIx (K : PySem.W.Frag) : R2 := fun x y H Q => rIxL K x y H Q ∨ rIxT K x y H Q ∨ rIxS x y H Q
theorem ix_seq : IxR X (rIx X.K) := ix_list.or (ix_tup.or ix_str)
theorem mapSeq_set (its : List Value) (n j : Nat) (u : Value) : Obj.mapSeq (·.setIfInBounds j u) { cls := .type "list", data := .seq its.toArray n } = { cls := .type "list", data := .seq (its.set j u).toArray n } := by
 simp [Obj.mapSeq]
theorem Inv.lst {pins : List (Addr × Obj)} {σ : St} {H : Hp} {s : Shared} {p : Addr} {xs : List V} (I : Inv X pins σ H s) (h : H p = some (.lst xs)) :
    ∃ (its : List Value) (n : Nat), Vals xs its ∧ s.heap.get? p = some { cls := .type "list", data := .seq its.toArray n } ∧ xs.length ≤ sizeLine := by
  obtain ⟨z, its, n, r, e⟩ := I.hok p _ h
  exact ⟨its, n, r, e, z⟩
theorem Inv.lstUpd {pins : List (Addr × Obj)} {σ : St} {H : Hp} {s : Shared} {p : Addr} {xs ys : List V} {its its' : List Value} {n n' : Nat} {f : Obj → Obj} (I : Inv X pins σ H s) (h : H p = some (.lst xs))
    (ho : s.heap.get? p = some { cls := .type "list", data := .seq its.toArray n }) (hf : f { cls := .type "list", data := .seq its.toArray n } = { cls := .type "list", data := .seq its'.toArray n' }) (r : Vals ys its') (hz : ys.length ≤ sizeLine) (t : Nat) :
    Inv X pins σ (upd H p (.lst ys)) { s with heap := s.heap.update p f, toks := t } := by
  have e : (s.heap.update p f).get? p = some { cls := .type "list", data := .seq its'.toArray n' } := by
    rw [Heap.get?_update_self f ho (by rw [hf] <;> rfl), hf]
  refine I.write (x := p) (e := p) (by rw [h]; trivial) (.inl rfl) (fun b u hb q => (Heap.get?_update_other _ _ (Ne.symm hb)).trans q) ⟨_, e⟩ ?_
  exact ⟨hz, its', n', r, e⟩
def rSetL : V → V → V → Hp → (Hp → Prop) → Prop := fun o i v H Q => ∃ p xs k j, o = .ref p ∧ i = .int k ∧ H p = some (.lst xs) ∧ ixN xs.length k = some j ∧ Q (upd H p (.lst (xs.set j v)))
theorem set_list : PSet X rSetL := by
 intro pins s σ H o i v ov iv u Q I ro ri rv h
 obtain ⟨p, xs, k, j, rfl, rfl, hp, hj, q⟩ := h
 cases ro
 obtain ⟨t, rfl⟩ := ri
 obtain ⟨its, n, r, ho, hz⟩ := I.lst hp
 obtain ⟨h1, h2, h3, h4⟩ := ixN_seq hj
 have hl := r.length
 have hn := line63
 have I' : Inv X pins σ (upd H p (.lst (xs.set j v))) { s with heap := s.heap.update p (Obj.mapSeq (·.setIfInBounds j u)) } :=
  I.lstUpd hp ho (mapSeq_set its n j u) (r.set rv j) (by rw [List.length_set]; exact hz) s.toks
 by_cases h0 : 0 ≤ k
 · have hk : k.toNat = j := by
    rw [seqIndex_of h0 h4] at h1
    exact Option.some.inj h1
   exact PySem.W.ki_setAt ho h0 (by omega) (by rw [List.size_toArray, ← hl]; exact h4) (by rw [hk]; exact ⟨_, I', q⟩)
 · have hk : (k + (its.toArray.size : Int)).toNat = j := by
    rw [seqIndex_neg (by omega) h3] at h1
    rw [List.size_toArray, ← hl]
    exact Option.some.inj h1
   exact PySem.W.ki_setBack ho (by omega) (by rw [List.size_toArray, ← hl]; exact h3) (by omega) (by rw [hk]; exact ⟨_, I', q⟩)
theorem slice_bounds (lo hi : Option Int) (n : Nat) : (sliceBounds lo hi none n).1 = ((HT.sIx n 0 lo : Nat) : Int) ∧ (sliceBounds lo hi none n).2.1 = ((HT.sIx n n hi : Nat) : Int) ∧ (sliceBounds lo hi none n).2.2 = 1 := by
 refine ⟨?_, ?_, rfl⟩
 · cases lo with
   | none => simp [sliceBounds, HT.sIx]
   | some i =>
    simp only [sliceBounds, HT.sIx, Option.getD_none, show (1 : Int) > 0 by decide, if_true]
    by_cases h : i < 0
    · simp only [h, if_true] <;> omega
    · simp only [h, if_false] <;> omega
 · cases hi with
   | none => simp [sliceBounds, HT.sIx]
   | some i =>
    simp only [sliceBounds, HT.sIx, Option.getD_none, show (1 : Int) > 0 by decide, if_true]
    by_cases h : i < 0
    · simp only [h, if_true] <;> omega
    · simp only [h, if_false] <;> omega
theorem slicePick_cut (its : List Value) (lo hi : Option Int) : slicePick its.toArray lo hi none = ((its.drop (HT.sIx its.length 0 lo)).take (HT.sIx its.length its.length hi - HT.sIx its.length 0 lo)).toArray := by
 obtain ⟨h1, h2, h3⟩ := slice_bounds lo hi its.toArray.size
 unfold slicePick
 rw [h1, h2, h3]
 simp only [sliceRange_one, pick_run, List.size_toArray] <;> rfl
def rSlL (K : PySem.W.Frag) : V → Option Int → Option Int → Hp → VK → Prop := fun x lo hi H Q => ∃ a xs, x = .ref a ∧ SqL K H a xs ∧ ∀ p, H p = none → Q (.ref p) (upd H p (.lst (cutV xs lo hi)))
theorem sl_list : SlR X (rSlL X.K) := by
 intro pins s σ H x v vl vu lo hi sl Q I rx hs pl pu h
 obtain ⟨a, xs, rfl, hx, q⟩ := h
 cases rx
 obtain ⟨its, r, ht, hz⟩ := I.list hx
 have hlen := r.length
 refine ⟨"list", _, slot_list_getitem.lookup, ht.isList.typeIs, ?_⟩
 refine wpAny_getItem_list_slice ht.isList hs pl pu .none (by simp) ?_ (by rw [List.size_toArray] <;> omega)
 rw [slicePick_cut, ← hlen]
 refine ⟨.ref s.heap.objs.size, _, I.laid (t' := s.toks) (o := .lst (cutV xs lo hi)) (fun b ob q => Heap.get?_push_of_some _ q) (Nat.le_refl _) ?_, rfl, q _ (I.hok.fresh (Nat.le_refl _))⟩
 exact ⟨Nat.le_trans (cutV_length xs lo hi) hz, _, 0, (r.drop (HT.sIx xs.length 0 lo)).take (HT.sIx xs.length xs.length hi - HT.sIx xs.length 0 lo), Heap.get?_push_size _ rfl⟩
noncomputable def eqV : V → V → Bool
 | .non, .non => true
 | .bl a, .bl b => a == b
 | .bl a, .int b => (if a then 1 else 0) == b
 | .int a, .bl b => a == (if b then 1 else 0)
 | .int a, .int b => a == b
 | .str a, .str b => a == b
 | _, _ => false
theorem call_len_seq : CallR X (.builtin "len") (fun xs H Q => ∃ p ys, xs = [.ref p] ∧ (SqL X.K H p ys ∨ SqT X.K H p ys) ∧ Q (.int ys.length) H) := by
 intro pins s σ H xs us Q I r h
 obtain ⟨p, ys, rfl, hq, q⟩ := h
 obtain ⟨u, rfl, rx⟩ := vals1 r
 cases rx
 have hn := line63
 rcases hq with hq | hq
 · obtain ⟨its, r', pl, hz⟩ := I.list hq
   have hlen := r'.length
   exact Calls.call_len_list pl.isList (by simp only [List.size_toArray] <;> omega) ⟨.int ys.length, H, I.tok _, ⟨s.toks + 1, by rw [List.size_toArray, hlen]⟩, q⟩
 · obtain ⟨its, r', pl, hz⟩ := I.tuple hq
   have hlen := r'.length
   exact len_tuple pl (by simp only [List.size_toArray] <;> omega) ⟨.int ys.length, H, I.tok _, ⟨s.toks + 1, by rw [List.size_toArray, hlen]⟩, q⟩
theorem call_len_str : CallR X (.builtin "len") (fun xs H Q => ∃ z, xs = [.str z] ∧ z.length ≤ sizeLine ∧ Q (.int z.length) H) := by
 intro pins s σ H xs us Q I r h
 obtain ⟨z, rfl, hz, q⟩ := h
 obtain ⟨u, rfl, t, rfl⟩ := vals1 r
 have hn := line63
 exact len_str (by omega) ⟨.int z.length, H, I.tok _, ⟨_, rfl⟩, q⟩
theorem CallR.or {f : Value} {r r' : List V → Hp → VK → Prop} (h : CallR X f r) (h' : CallR X f r') : CallR X f (fun xs H Q => r xs H Q ∨ r' xs H Q) := by
 intro pins s σ H xs us Q I rs q
 rcases q with q | q
 · exact h pins s σ H xs us Q I rs q
 · exact h' pins s σ H xs us Q I rs q
theorem call_list_of : CallR X (.type "list") (fun xs H Q => ∃ p ys, xs = [.ref p] ∧ (SqL X.K H p ys ∨ SqT X.K H p ys) ∧ ∀ l, H l = none → Q (.ref l) (upd H l (.lst ys))) := by
  intro pins s σ H xs us Q I r h
  obtain ⟨p, ys, rfl, hq, q⟩ := h
  obtain ⟨u, rfl, rx⟩ := vals1 r
  cases rx
  have fin : ∀ (its : List Value), Vals ys its → ys.length ≤ sizeLine → ∀ (h' : Heap) (c' : Nat), (∀ b o', s.heap.get? b = some o' → h'.get? b = some o') →
      h'.get? s.heap.objs.size = some { cls := .type "list", dict := none, data := .seq its.toArray c', slots := #[] } → EP X pins σ Q (.ref s.heap.objs.size) { s with heap := h' } := fun its r' hz h' c' kp e =>
    ⟨.ref s.heap.objs.size, _, I.laid (t' := s.toks) kp (Nat.le_refl _) (show ObjOk X.prog X.w _ h' _ (.lst ys) from ⟨hz, its, c', r', e⟩), rfl, q _ (I.hok.fresh (Nat.le_refl _))⟩
  rcases hq with hq | hq
  · obtain ⟨its, r', pl, hz⟩ := I.list hq
    have hlen := r'.length
    obtain ⟨o, ho, hc, n, hd⟩ := pl.isList
    exact call_list_seq p (.inl rfl) ho hc hd (fun h' c' kp e => fin its r' hz h' c' kp e) (by simp only [List.size_toArray] <;> omega)
  · obtain ⟨its, r', pl, hz⟩ := I.tuple hq
    have hlen := r'.length
    obtain ⟨o, ho, hc, n, hd⟩ := pl
    exact call_list_seq p (.inr rfl) ho hc hd (fun h' c' kp e => fin its r' hz h' c' kp e) (by simp only [List.size_toArray] <;> omega)
theorem call_tuple_of : CallR X (.type "tuple") (fun xs H Q => ∃ p ys, xs = [.ref p] ∧ ((SqL X.K H p ys ∧ ∀ l, H l = none → Q (.ref l) (upd H l (.tup ys))) ∨ (SqT X.K H p ys ∧ Q (.ref p) H))) := by
 intro pins s σ H xs us Q I r h
 obtain ⟨p, ys, rfl, h⟩ := h
 obtain ⟨u, rfl, rx⟩ := vals1 r
 cases rx
 rcases h with ⟨hq, q⟩ | ⟨hq, q⟩
 · obtain ⟨its, r', pl, hz⟩ := I.list hq
   have hlen := r'.length
   refine call_tuple_list pl.isList (fun h' kp => ?_) (by simp only [List.size_toArray] <;> omega)
   have I1 : Inv X pins σ H { s with heap := h' } := I.kept (t' := s.toks) kp
   have I2 : Inv X pins σ (upd H h'.objs.size (.tup ys)) { s with heap := h'.push { cls := .type "tuple", data := .seq its.toArray } } :=
    I1.laid (t' := s.toks) (fun b o e => Heap.get?_push_of_some _ e) (Nat.le_refl _) (show ObjOk X.prog X.w _ _ _ (.tup ys) from ⟨hz, its, r', IsTup.new _ _⟩)
   exact ⟨.ref h'.objs.size, _, I2, rfl, q _ (I1.hok.fresh (Nat.le_refl _))⟩
 · obtain ⟨its, r', pl, hz⟩ := I.tuple hq
   exact call_tuple_same pl ⟨.ref p, H, I, rfl, q⟩
def tyV (K : PySem.W.Frag) (T : String) (x : V) (H : Hp) : Prop := match x with
  | .str _ => T = "str"
  | .int _ => T = "int"
  | .ref p => (T = "list" ∧ ∃ xs, SqL K H p xs) ∨ (T = "tuple" ∧ ∃ o, K.lookup p = some o ∧ o.cls = .type "tuple" ∧ o.dict = none) ∨
      (T = "dict" ∧ ((∃ kvs, H p = some (.dK kvs)) ∨ ∃ kvs, H p = some (.dT kvs))) ∨ (T = "set" ∧ ∃ S n, H p = some (.set S n))
  | _ => False
theorem tyV_is {pins : List (Addr × Obj)} {σ : St} {H : Hp} {s : Shared} {T : String} {x : V} {v : Value} (I : Inv X pins σ H s) (r : RelV x v) (ty : tyV X.K T x H) :
    s.TypeIs v T ∧ ∀ a, v = .ref a → ∃ ob, s.heap.get? a = some ob ∧ ob.dict = none := by
  cases x with
  | str z =>
    obtain ⟨t, rfl⟩ := r
    cases (show T = "str" from ty)
    exact ⟨typeIs_str s z t, fun _ e => nomatch e⟩
  | int i =>
    obtain ⟨t, rfl⟩ := r
    cases (show T = "int" from ty)
    exact ⟨typeIs_int s i t, fun _ e => nomatch e⟩
  | ref p =>
    cases r
    rcases ty with ⟨rfl, xs, hq⟩ | ⟨rfl, o, hk, hc, hd⟩ | ⟨rfl, hk⟩ | ⟨rfl, S, n, hk⟩
    · obtain ⟨its, _, pl, _⟩ := I.list hq
      refine ⟨pl.isList.typeIs, fun a e => ?_⟩
      cases e
      obtain ⟨o, n, e, c, hd, _⟩ := pl
      exact ⟨o, e, hd⟩
    · refine ⟨⟨o, I.kIn p o hk, hc⟩, fun a e => ?_⟩
      cases e
      exact ⟨o, I.kIn _ o hk, hd⟩
    · have z : ∃ o, s.heap.get? p = some o ∧ o.ExactDict := by
        rcases hk with ⟨kvs, hk⟩ | ⟨kvs, hk⟩
        · obtain ⟨_, _, _, _, o, _, _, e, ex, _⟩ := I.hok p _ hk
          exact ⟨o, e, ex⟩
        · obtain ⟨_, _, _, _, o, _, _, e, ex, _⟩ := I.hok p _ hk
          exact ⟨o, e, ex⟩
      obtain ⟨o, e, ex⟩ := z
      refine ⟨⟨o, e, ex.1⟩, fun a e2 => ?_⟩
      cases e2
      exact ⟨o, e, ex.2.1⟩
    · obtain ⟨o, _, _, _, e, ex, _⟩ := I.hok p _ hk
      refine ⟨⟨o, e, ex.1⟩, fun a e2 => ?_⟩
      cases e2
      exact ⟨o, e, ex.2.1⟩
  | _ => exact False.elim ty
def tBM (K : PySem.W.Frag) (T : String) (r : V → List V → Hp → VK → Prop) (to : TE) (t : TA) : TE := fun σ H Q => to σ H fun x H1 => tyV K T x H1 ∧ t σ H1 fun xs H2 => r x xs H2 Q
variable {o e : Expr} {es : List Expr} {to : TE} {t : TA} {name : Str} {apos cpos : Pos} {T id : String} {r : V → List V → Hp → VK → Prop}
theorem pe_bm (pa : PlainAttrs T) (slot : Slot T name id) (hty : typeOf (.builtin id) = pure (.type "method_descriptor")) (hm : MtR X id r) (ho : PE X o to) (ha : PA X (e :: es) t)
    (hbase : attributeBase o name X.env (eval o X.env) = eval o X.env := by rfl)
    (hfew : ((backTo cpos (starEach (e :: es) X.env)).all (fun x => !x.1) && (backToKw cpos (keywordEach [] X.env)).all (fun x => x.1.isSome)
      && decide ((e :: es).length + ([] : List Keyword).length + (if ([] : List Keyword).isEmpty then 0 else 1) < 30)) = true := by rfl)
    (hline : (apos.endLine == cpos.line) = true := by rfl) (hs : starEach (e :: es) X.env = (false, eval e X.env) :: starEach es X.env := by rfl) (hplain : (backTo cpos (starEach es X.env)).any (·.1) = false := by rfl) :
    PE X (.Call (.Attribute o name apos) (e :: es) [] cpos) (tBM X.K T r to t) := by
  intro pins s σ H Q I h
  refine wpAny_Call_method_late hbase hfew hline rfl (thn (ho pins s σ H _ I h) fun v s1 ⟨x, H1, I1, r1, ty, q1⟩ => ?_)
  obtain ⟨h1, h2⟩ := tyV_is I1 r1 ty
  refine ⟨T, id, pa, slot, hty, h1, h2, ?_⟩
  have hA := ha cpos pins s1 σ H1 _ I1 q1
  rw [hs] at hA ⊢
  refine Calls.callWith_builtin (by show (false || (backTo cpos (starEach es X.env)).any (·.1)) = false; rw [hplain] <;> rfl) (Calls.evalArgs_plain ?_)
  exact thn hA fun us s2 ⟨vs, H2, I2, r2, q2⟩ => hm pins s2 σ H2 x vs v us Q I2 r1 r2 q2
end
end L2
namespace L2
open PySem PySem.Spec PyProof.Rows
def MtM (X : Cx) (id : String) (r : V → List V → Hp → VK → Prop) : Prop :=
 ∀ (pins : List (Addr × Obj)) (s : Shared) (σ : St) (H : Hp) (x : V) (xs : List V) (v : Value) (us : List Value) (Q : VK), Inv X pins σ H s → RelV x v → Vals xs us → r x xs H Q →
  wpAny (model X.prog X.w) X.A (call (.builtin id) (v :: us)) (EP X pins σ Q) X.xe s
theorem Vals.one : ∀ {x : V} {us : List Value}, Vals [x] us → ∃ u, us = [u] ∧ RelV x u
 | _, _, .cons r .nil => ⟨_, rfl, r⟩
theorem Vals.rep {xs : List V} {us : List Value} (h : Vals xs us) : ∀ k : Nat, Vals (List.replicate k xs).flatten (List.replicate k us).flatten
 | 0 => .nil
 | k + 1 => by
  rw [List.replicate_succ, List.replicate_succ, List.flatten_cons, List.flatten_cons]
  exact Vals.append h (Vals.rep h k)
theorem foldl_rep (its : List Value) : ∀ (k : Nat) (acc : List Value),
    List.foldl (fun x1 x2 => x1 ++ x2) acc.toArray (List.replicate k its.toArray) = (acc ++ (List.replicate k its).flatten).toArray
  | 0, acc => by simp
  | k + 1, acc => by
    have e : acc.toArray ++ its.toArray = (acc ++ its).toArray := by simp
    have e2 : (acc ++ its) ++ (List.replicate k its).flatten = acc ++ (List.replicate (k + 1) its).flatten := by
      rw [List.replicate_succ, List.flatten_cons, List.append_assoc]
    rw [← e2, ← foldl_rep its k (acc ++ its), ← e, List.replicate_succ, List.foldl_cons]
section
variable {X : Cx} {pins : List (Addr × Obj)} {σ : St} {H : Hp} {s : Shared} {l b : Addr} {xs ys zs : List V}
theorem Inv.lset {its its' : List Value} {n : Nat} {f : Array Value → Array Value} {t' : Nat} (I : Inv X pins σ H s) (hH : H l = some (.lst xs))
    (e : s.heap.get? l = some { cls := .type "list", data := .seq its.toArray n }) (hf : f its.toArray = its'.toArray) (hv : Vals ys its') (hz : ys.length ≤ sizeLine) :
    Inv X pins σ (upd H l (.lst ys)) { s with heap := s.heap.update l (Obj.mapSeq f), toks := t' } := by
  have q := PySem.IsL.update e f
  rw [hf] at q
  refine I.write (x := l) (e := l) (by rw [hH]; exact trivial) (.inl rfl) (fun b' u hb hu => (Heap.get?_update_other s.heap (Obj.mapSeq f) (Ne.symm hb)).trans hu) ⟨_, q⟩ ?_
  exact ⟨hz, its', _, hv, q⟩
theorem Inv.lnew {its : List Value} {t' : Nat} (I : Inv X pins σ H s) (hv : Vals ys its) (hz : ys.length ≤ sizeLine) :
    Inv X pins σ (upd H s.heap.objs.size (.lst ys)) { s with heap := s.heap.push { cls := .type "list", data := .seq its.toArray }, toks := t' } :=
  I.laid (fun _ _ q => Heap.get?_push_of_some _ q) (Nat.le_refl _) ⟨hz, its, 0, hv, Heap.get?_push_size _ rfl⟩
theorem Inv.fresh (I : Inv X pins σ H s) : H s.heap.objs.size = none := I.hok.fresh (Nat.le_refl _)
theorem Inv.lstM (I : Inv X pins σ H s) (hH : H l = some (.lst xs)) : xs.length ≤ sizeLine ∧ ∃ (its : List Value) (n : Nat), Vals xs its ∧ xs.length = its.length ∧ s.heap.get? l = some { cls := .type "list", data := .seq its.toArray n } := by
 obtain ⟨z, its, n, r, e⟩ := I.hok l _ hH
 exact ⟨z, its, n, r, r.length, e⟩
theorem notLongL {n : Nat} (h : n ≤ sizeLine) : Builtin.List.listTooLong n = false := by
 unfold Builtin.List.listTooLong
 exact decide_eq_false (by omega)
end
section
variable {X : Cx}
def rAppend : V → List V → Hp → VK → Prop := fun x vs H Q => ∃ l xs y, x = .ref l ∧ vs = [y] ∧ H l = some (.lst xs) ∧ xs.length < sizeLine ∧ Q .non (upd H l (.lst (xs ++ [y])))
theorem mt_append : MtM X "list.append" rAppend := by
 intro pins s σ H x vs v us Q I rx rv h
 obtain ⟨l, xs, y, rfl, rfl, hH, hz, q⟩ := h
 cases rx
 obtain ⟨u, rfl, ru⟩ := rv.one
 obtain ⟨z, its, n, r, hl, e⟩ := I.lstM hH
 refine call_meets F.slot_list_append ⟨_, e, rfl⟩ F.entry_list_append (F.args_list_append_2 _ _) (PySem.list_append l its.toArray n u (by rw [List.size_toArray]; omega)) ⟨e, ?_⟩
 refine ⟨.non, _, I.lset (its' := its ++ [u]) hH e (by simp) (r.append (.cons ru .nil)) ?_, rfl, q⟩
 rw [List.length_append, List.length_singleton]
 omega
noncomputable def rCat : R2 := fun x y H Q => ∃ l b xs zs, x = .ref l ∧ y = .ref b ∧ H l = some (.lst xs) ∧ H b = some (.lst zs) ∧ xs.length + zs.length ≤ sizeLine ∧ ∀ p, H p = none → Q (.ref p) (upd H p (.lst (xs ++ zs)))
theorem op_cat : OpR X (binaryOp .Add) rCat := by
 intro pins s σ H x y v u Q I rx ry h
 obtain ⟨l, b, xs, zs, rfl, rfl, hH, hB, hz, q⟩ := h
 cases rx
 cases ry
 obtain ⟨z, its, n, r, hl, e⟩ := I.lstM hH
 obtain ⟨z2, its2, n2, r2, hl2, e2⟩ := I.lstM hB
 refine PySem.P.add_list e e2 ?_ (by rw [List.size_toArray, List.size_toArray]; omega)
 have ea : its.toArray ++ its2.toArray = (its ++ its2).toArray := by simp
 rw [ea]
 exact ⟨.ref _, _, I.lnew (t' := s.toks) (r.append r2) (by rw [List.length_append]; omega), rfl, q _ I.fresh⟩
noncomputable def rRep : R2 := fun x y H Q => ∃ l k xs, x = .ref l ∧ y = .int k ∧ H l = some (.lst xs) ∧ -(2 ^ 63) ≤ k ∧ k < 2 ^ 63 ∧ xs.length * k.toNat ≤ sizeLine ∧
 ∀ p, H p = none → Q (.ref p) (upd H p (.lst (List.replicate k.toNat xs).flatten))
theorem len_rep {α : Type} (xs : List α) (k : Nat) : (List.replicate k xs).flatten.length = k * xs.length := by
 induction k with
 | zero => simp
 | succ k ih => rw [List.replicate_succ, List.flatten_cons, List.length_append, ih, Nat.succ_mul, Nat.add_comm]
theorem op_rep : OpR X (binaryOp .Mult) rRep := by
 intro pins s σ H x y v u Q I rx ry h
 obtain ⟨l, k, xs, rfl, rfl, hH, h1, h2, hz, q⟩ := h
 cases rx
 obtain ⟨t, rfl⟩ := ry
 obtain ⟨z, its, n, r, hl, e⟩ := I.lstM hH
 have hlen : its.toArray.size * k.toNat ≤ sizeLine := by rw [List.size_toArray, ← hl]; exact hz
 have hcap : ¬ its.toArray.size * k.toNat > (2 ^ 63 - 1) / 8 := by
  have : (sizeLine : Nat) ≤ (2 ^ 63 - 1) / 8 := by decide
  omega
 have hfit : ¬ (!Builtin.List.listFitsIndex k) = true := by
  rw [fitsIndex_both h1 h2]
  exact Bool.false_ne_true
 have hlong : ¬ Builtin.List.listTooLong (its.toArray.size * k.toNat) = true := by
  rw [notLongL hlen]
  exact Bool.false_ne_true
 have hnew : List.foldl (fun x1 x2 => x1 ++ x2) #[] (List.replicate (if its.toArray.isEmpty = true then 0 else k.toNat) its.toArray) = (List.replicate k.toNat its).flatten.toArray := by
  have f0 : ∀ m : Nat, List.foldl (fun x1 x2 => x1 ++ x2) #[] (List.replicate m its.toArray) = (List.replicate m its).flatten.toArray := fun m => by
   have := foldl_rep its m []
   rw [List.nil_append] at this
   exact this
  rw [f0]
  cases its with
  | nil => simp
  | cons a r' => rw [if_neg (by simp)]
 refine wpAny_binaryOp_repeat_ref (T := "list") (U := "int") (by decide) ⟨_, e, rfl⟩ (fun s' => typeIs_int s' k t) noFill_list_mul F.fills_int_mul F.slot_int_rmul repeat_list F.slot_int_index.lookup
  (call_meets F.slot_int_rmul (typeIs_int s k t) F.entry_int_rmul (F.args_int_rmul_2 _ _) (int___rmul___int_list k t l its.toArray n)
   ⟨e, rfl, ⟨_, e, rfl⟩, call_meets F.slot_list_mul ⟨_, e, rfl⟩ F.entry_list_mul (F.args_list_mul_2 _ _) (AutoListH.list___mul___list_int_3 l its.toArray n k t hfit hcap hlong) ⟨e, ?_⟩⟩)
 rw [hnew]
 exact ⟨.ref _, _, I.lnew (t' := s.toks) (r.rep k.toNat) (by rw [len_rep, Nat.mul_comm]; exact hz), rfl, q _ I.fresh⟩
end
section
variable {prog : Program} {w : World} {A : Around} {E : Value → Shared → Prop} {s : Shared}
end
section
variable {X : Cx}
end
end L2
namespace L2
open PySem PySem.Spec PyProof.Rows
section
variable {κ : Type} [DecidableEq κ]
noncomputable def valV (kvs : List (κ × V)) (k : κ) : Option V := (kvs.find? fun kv => decide (kv.1 = k)).map (·.2)
noncomputable def putK (kvs : List (κ × V)) (k : κ) (v : V) : List (κ × V) :=
 if (kvs.any fun kv => decide (kv.1 = k)) = true then kvs.map (fun kv => if kv.1 = k then (kv.1, v) else kv) else kvs ++ [(k, v)]
noncomputable def dropK (kvs : List (κ × V)) (k : κ) : List (κ × V) := kvs.filter fun kv => decide (kv.1 ≠ k)
theorem valV_pos {p : κ × V} {r : List (κ × V)} {k : κ} (e : p.1 = k) : valV (p :: r) k = some p.2 := by simp [valV, List.find?_cons, e]
theorem valV_neg {p : κ × V} {r : List (κ × V)} {k : κ} (e : ¬ p.1 = k) : valV (p :: r) k = valV r k := by simp [valV, List.find?_cons, e]
theorem valV_any (k : κ) : ∀ kvs : List (κ × V), (kvs.any fun kv => decide (kv.1 = k)) = (valV kvs k).isSome
 | [] => rfl
 | p :: r => by
  rw [List.any_cons]
  by_cases e : p.1 = k
  · simp only [valV_pos e, decide_eq_true e, Bool.true_or, Option.isSome_some]
  · rw [valV_neg e, decide_eq_false e, Bool.false_or]; exact valV_any k r
theorem length_putK (kvs : List (κ × V)) (k : κ) (v : V) : (putK kvs k v).length ≤ kvs.length + 1 := by
 unfold putK
 split
 · rw [List.length_map]; omega
 · rw [List.length_append, List.length_cons, List.length_nil]; omega
theorem RelO.isSome_eq {o : Option V} {u : Option Value} (r : RelO o u) : o.isSome = u.isSome := by
 cases o with
 | none => cases u with
  | none => rfl
  | some _ => exact (show False from r).elim
 | some _ => cases u with
  | none => exact (show False from r).elim
  | some _ => rfl
theorem RelO.getD {o : Option V} {u : Option Value} {d : V} {d' : Value} (r : RelO o u) (rd : RelV d d') : RelV (o.getD d) (u.getD d') := by
 cases o with
 | none => cases u with
  | none => exact rd
  | some _ => exact (show False from r).elim
 | some _ => cases u with
  | none => exact (show False from r).elim
  | some _ => exact r
theorem KV.val {kvs : List (κ × V)} {vs : List (κ × Value)} (r : KV kvs vs) (k : κ) : RelO (valV kvs k) (valueAt vs k) := by
 unfold KV at r
 induction r with
 | nil => exact True.intro
 | @cons p q ps qs h t ih =>
  obtain ⟨h1, h2⟩ := h
  by_cases e : p.1 = k
  · have e' : q.1 = k := h1.symm.trans e
    have b : valueAt (q :: qs) k = some q.2 := by simp [valueAt, List.find?_cons, e']
    rw [valV_pos e, b]; exact h2
  · have e' : ¬ q.1 = k := fun z => e (h1.trans z)
    have b : valueAt (q :: qs) k = valueAt qs k := by simp [valueAt, List.find?_cons, e']
    rw [valV_neg e, b]; exact ih
theorem KV.any {kvs : List (κ × V)} {vs : List (κ × Value)} (r : KV kvs vs) (k : κ) : (kvs.any fun kv => decide (kv.1 = k)) = vs.any fun kv => decide (kv.1 = k) := by
 unfold KV at r
 induction r with
 | nil => rfl
 | cons h t ih => rw [List.any_cons, List.any_cons, ih, h.1]
theorem KV.repl {kvs : List (κ × V)} {vs : List (κ × Value)} (r : KV kvs vs) (k : κ) {y : V} {u : Value} (ry : RelV y u) :
    KV (kvs.map fun kv => if kv.1 = k then (kv.1, y) else kv) (vs.map fun kv => if kv.1 = k then (kv.1, u) else kv) := by
  unfold KV at r ⊢
  induction r with
  | nil => exact .nil
  | @cons p q ps qs h t ih =>
    rw [List.map_cons, List.map_cons]
    refine .cons ?_ ih
    obtain ⟨h1, h2⟩ := h
    by_cases e : p.1 = k
    · rw [if_pos e, if_pos (h1.symm.trans e)]; exact ⟨h1, ry⟩
    · rw [if_neg e, if_neg (fun z => e (h1.trans z))]; exact ⟨h1, h2⟩
theorem KV.put {kvs : List (κ × V)} {vs : List (κ × Value)} (r : KV kvs vs) (k : κ) {y : V} {u : Value} (ry : RelV y u) : KV (putK kvs k y) (stored vs k u) := by
 unfold putK stored
 rw [r.any k]
 by_cases e : (vs.any fun kv => decide (kv.1 = k)) = true
 · rw [if_pos e, if_pos e]; exact r.repl k ry
 · rw [if_neg e, if_neg e]; exact Paired.snoc r ⟨rfl, ry⟩
theorem KV.drop {kvs : List (κ × V)} {vs : List (κ × Value)} (r : KV kvs vs) (k : κ) : KV (dropK kvs k) (without vs k) := by
 unfold KV at r ⊢
 unfold dropK without
 induction r with
 | nil => exact .nil
 | @cons p q ps qs h t ih =>
  obtain ⟨h1, h2⟩ := h
  rw [List.filter_cons, List.filter_cons]
  by_cases e : p.1 = k
  · have a : ¬ decide (p.1 ≠ k) = true := by simp [e]
    have b : ¬ decide (q.1 ≠ k) = true := by simp [h1.symm.trans e]
    rw [if_neg a, if_neg b]; exact ih
  · have e' : ¬ q.1 = k := fun z => e (h1.trans z)
    have a : decide (p.1 ≠ k) = true := by simp [e]
    have b : decide (q.1 ≠ k) = true := by simp [e']
    rw [if_pos a, if_pos b]; exact .cons ⟨h1, h2⟩ ih
theorem KV.length {kvs : List (κ × V)} {vs : List (κ × Value)} (r : KV kvs vs) : kvs.length = vs.length := Paired.length r
end
theorem kV_is {P : Program} {w : World} {k : Key} {u : Value} (r : RelV (kV k) u) : (mixKind P w).is k u = true := by
 cases k with
 | inl i => obtain ⟨t, e⟩ := (show ∃ t, u = Value.int i t from r); subst e; exact mixKind_int P w i t
 | inr x => obtain ⟨t, e⟩ := (show ∃ t, u = Value.str x t from r); subst e; exact mixKind_str P w x t
theorem items_are {P : Program} {w : World} : ∀ {ks : List Key} {us : List Value}, Vals (ks.map kV) us → ItemsAre (mixKind P w) ks us
 | [], _, r => by rw [List.map_nil] at r; cases r; exact .nil
 | k :: ks, _, r => by
  rw [List.map_cons] at r
  cases r with
  | cons h t => exact .cons (kV_is h) (items_are t)
abbrev KT (H : Hp) : List (List Key × V) → List (List Key × Addr × Value) → Prop := Paired fun p q => p.1 = q.1 ∧ H q.2.1 = some (.tup (p.1.map kV)) ∧ RelV p.2 q.2.2
theorem KT.val {H : Hp} {kvs : List (List Key × V)} {xs : List (List Key × Addr × Value)} (r : KT H kvs xs) (k : List Key) : RelO (valV kvs k) ((atKey xs k).map (·.2)) := by
 induction r with
 | nil => exact True.intro
 | @cons p q ps qs h t ih =>
  obtain ⟨h1, _, h2⟩ := h
  by_cases e : p.1 = k
  · have e' : q.1 = k := h1.symm.trans e
    have b : atKey (q :: qs) k = some q.2 := by simp [atKey, List.find?_cons, e']
    rw [valV_pos e, b]; exact h2
  · have e' : ¬ q.1 = k := fun z => e (h1.trans z)
    have b : atKey (q :: qs) k = atKey qs k := by simp [atKey, List.find?_cons, e']
    rw [valV_neg e, b]; exact ih
theorem KT.repl {H : Hp} {kvs : List (List Key × V)} {xs : List (List Key × Addr × Value)} (r : KT H kvs xs) (k : List Key) {y : V} {u : Value} (ry : RelV y u) :
    KT H (kvs.map fun kv => if kv.1 = k then (kv.1, y) else kv) (xs.map (putAt k u)) := by
  induction r with
  | nil => exact .nil
  | @cons p q ps qs h t ih =>
    rw [List.map_cons, List.map_cons]
    refine .cons ?_ ih
    obtain ⟨h1, h2, h3⟩ := h
    unfold putAt
    by_cases e : p.1 = k
    · rw [if_pos e, if_pos (h1.symm.trans e)]; exact ⟨h1, h2, ry⟩
    · rw [if_neg e, if_neg (fun z => e (h1.trans z))]; exact ⟨h1, h2, h3⟩
theorem KT.put {H : Hp} {kvs : List (List Key × V)} {xs : List (List Key × Addr × Value)} (r : KT H kvs xs) (k : List Key) {b : Addr} {y : V} {u : Value} (hb : H b = some (.tup (k.map kV))) (ry : RelV y u) :
    KT H (putK kvs k y) (storedH xs k b u) := by
  have e : (kvs.any fun kv => decide (kv.1 = k)) = (atKey xs k).isSome := by
    rw [valV_any, (r.val k).isSome_eq, Option.isSome_map]
  unfold putK storedH
  rw [e]
  by_cases q : (atKey xs k).isSome = true
  · rw [if_pos q, if_pos q]; exact r.repl k ry
  · rw [if_neg q, if_neg q]; exact Paired.snoc r ⟨rfl, hb, ry⟩
theorem KT.keeps {H H' : Hp} {kvs : List (List Key × V)} {xs : List (List Key × Addr × Value)} (r : KT H kvs xs) (ht : ∀ b ys, H b = some (.tup ys) → H' b = some (.tup ys)) : KT H' kvs xs :=
 Paired.mapP r fun _ _ z => ⟨z.1, ht _ _ z.2.1, z.2.2⟩
section
variable {P : Program} {w : World} {H : Hp} {h : Heap} {a : Addr}
theorem rd_of {u : HO} (ok : HOk P w H h) (e : Rd H a u) : ObjOk P w H h a u := e.ok ok
theorem dk_rd {kvs : List (Key × V)} (ok : HOk P w H h) (e : Rd H a (.dK kvs)) : kvs.length ≤ sizeLine ∧ (a == sysModules) = false ∧ ∃ vs, KV kvs vs ∧ h.DictOf (mixKind P w) a vs :=
 show ObjOk P w H h a (.dK kvs) from rd_of ok e
theorem dk_of {kvs : List (Key × V)} (ok : HOk P w H h) (e : H a = some (.dK kvs)) : kvs.length ≤ sizeLine ∧ (a == sysModules) = false ∧ ∃ vs, KV kvs vs ∧ h.DictOf (mixKind P w) a vs := dk_rd ok (.inl e)
theorem key_of {ks : List Key} (ok : HOk P w H h) (e : H a = some (.tup (ks.map kV))) : (tupleKind (mixKind P w)).is h ks a := by
 obtain ⟨_, its, r, o, h1, h2, n, h3⟩ := (show ObjOk P w H h a (.tup (ks.map kV)) from ok a _ e)
 exact ⟨o, its.toArray, n, h1, h2, h3, by simpa using items_are r⟩
theorem dt_rd {kvs : List (List Key × V)} (ok : HOk P w H h) (e : Rd H a (.dT kvs)) : kvs.length ≤ sizeLine ∧ (a == sysModules) = false ∧
    ∃ xs, KT H kvs xs ∧ h.DictOfH (tupleKind (mixKind P w)) a xs := by
  obtain ⟨z, y, xs, r, o, es, ep, h1, h2, h3, h4, h5⟩ := (show ObjOk P w H h a (.dT kvs) from rd_of ok e)
  refine ⟨z, y, xs, r, o, es, ep, h1, h2, h3, h4, fun x hx => ?_, h5⟩
  have all : ∀ {l : List (List Key × V)} {m : List (List Key × Addr × Value)}, KT H l m → ∀ x ∈ m, (tupleKind (mixKind P w)).is h x.1 x.2.1 := by
    intro l m q
    induction q with
    | nil => intro x hx; exact nomatch hx
    | @cons p q ps qs hq t ih =>
      intro x hx
      rcases List.mem_cons.mp hx with e | hx
      · subst e
        exact key_of ok (by rw [← hq.1]; exact hq.2.1)
      · exact ih x hx
  exact all r x hx
theorem dt_of {kvs : List (List Key × V)} (ok : HOk P w H h) (e : H a = some (.dT kvs)) : kvs.length ≤ sizeLine ∧ (a == sysModules) = false ∧
    ∃ xs, KT H kvs xs ∧ h.DictOfH (tupleKind (mixKind P w)) a xs := dt_rd ok (.inl e)
end
def DGet (H : Hp) (a : Addr) (y : V) (r : Option V) : Prop :=
 (∃ kvs k, Rd H a (.dK kvs) ∧ y = kV k ∧ r = valV kvs k) ∨ ∃ kvs k b, Rd H a (.dT kvs) ∧ y = .ref b ∧ H b = some (.tup (k.map kV)) ∧ r = valV kvs k
def DPut (H : Hp) (a : Addr) (y v : V) (H' : Hp) : Prop :=
 (∃ kvs k, H a = some (.dK kvs) ∧ y = kV k ∧ kvs.length < sizeLine ∧ H' = upd H a (.dK (putK kvs k v))) ∨
 ∃ kvs k b, H a = some (.dT kvs) ∧ y = .ref b ∧ H b = some (.tup (k.map kV)) ∧ kvs.length < sizeLine ∧ H' = upd H a (.dT (putK kvs k v))
theorem DGet.k {H : Hp} {a : Addr} {kvs : List (Key × V)} {k : Key} (e : H a = some (.dK kvs)) : DGet H a (kV k) (valV kvs k) := .inl ⟨kvs, k, .inl e, rfl, rfl⟩
theorem DGet.t {H : Hp} {a b : Addr} {kvs : List (List Key × V)} {k : List Key} (e : H a = some (.dT kvs)) (eb : H b = some (.tup (k.map kV))) : DGet H a (.ref b) (valV kvs k) := .inr ⟨kvs, k, b, .inl e, rfl, eb, rfl⟩
theorem DPut.k {H : Hp} {a : Addr} {kvs : List (Key × V)} {k : Key} {v : V} (e : H a = some (.dK kvs)) (hl : kvs.length < sizeLine) : DPut H a (kV k) v (upd H a (.dK (putK kvs k v))) := .inl ⟨kvs, k, e, rfl, hl, rfl⟩
theorem DPut.t {H : Hp} {a b : Addr} {kvs : List (List Key × V)} {k : List Key} {v : V} (e : H a = some (.dT kvs)) (eb : H b = some (.tup (k.map kV))) (hl : kvs.length < sizeLine) :
    DPut H a (.ref b) v (upd H a (.dT (putK kvs k v))) := .inr ⟨kvs, k, b, e, rfl, eb, hl, rfl⟩
section
variable {X : Cx} {pins : List (Addr × Obj)} {σ : St} {H : Hp} {s : Shared} {a : Addr} {y v : V} {u r : Value} {o : Option V} {A : Around} {E : Value → Shared → Prop}
theorem Inv.big (I : Inv X pins σ H s) : sysModules < s.heap.objs.size := by
 have h : mainGlobals < s.heap.objs.size := (I.mod.glob.keeps I.bk).lt
 exact Nat.lt_trans (by decide) h
theorem d_getItem {Q : Value → Shared → Prop} (hu : A.units + 1 < cLine) (I : Inv X pins σ H s) (g : DGet H a y (some v)) (ry : RelV y u) (h : ∀ w' s', Inv X pins σ H s' → RelV v w' → Q w' s') :
    wpAny (model X.prog X.w) A (getItem (.ref a) u) Q E s := by
  rcases g with ⟨kvs, k, e, ey, l⟩ | ⟨kvs, k, b, e, ey, eb, l⟩
  · subst ey
    obtain ⟨z, hd, vs, rel, dd⟩ := dk_rd I.hok e
    obtain ⟨w', hw, rw'⟩ := RelO.some_of (v := v) (o := valueAt vs k) (by rw [l]; exact rel.val k)
    exact wpAny_getItem_of (kV_is ry) dd.mapOf hw (h w' _ (I.tok _) rw')
  · subst ey
    cases (show u = Value.ref b from ry)
    obtain ⟨z, hd, xs, rel, dd⟩ := dt_rd I.hok e
    obtain ⟨w', hw, rw'⟩ := RelO.some_of (v := v) (o := (atKey xs k).map (·.2)) (by rw [l]; exact rel.val k)
    obtain ⟨p, hp, hp2⟩ := Option.map_eq_some_iff.mp hw
    refine wpAny_getItem_heap (tupleKind_room_in1 hu) (key_of I.hok eb) dd hp ?_
    rw [hp2]
    exact h w' _ (I.tok _) rw'
theorem d_in {Q : Value → Shared → Prop} (hu : A.units + 1 < cLine) (I : Inv X pins σ H s) (g : DGet H a y o) (ry : RelV y u) (h : ∀ s', Inv X pins σ H s' → Q (.bool o.isSome) s') :
    wpAny (model X.prog X.w) A (compareOp .In u (.ref a)) Q E s := by
  rcases g with ⟨kvs, k, e, ey, l⟩ | ⟨kvs, k, b, e, ey, eb, l⟩
  · subst ey
    obtain ⟨z, hd, vs, rel, dd⟩ := dk_rd I.hok e
    refine wpAny_in_of (kV_is ry) hd dd.mapOf ?_
    rw [← (rel.val k).isSome_eq, ← l]
    exact h _ (I.tok _)
  · subst ey
    cases (show u = Value.ref b from ry)
    obtain ⟨z, hd, xs, rel, dd⟩ := dt_rd I.hok e
    refine wpAny_in_heap (tupleKind_room_in1 hu) (key_of I.hok eb) hd dd ?_
    have q := (rel.val k).isSome_eq
    rw [Option.isSome_map] at q
    rw [← q, ← l]
    exact h _ (I.tok _)
theorem d_notIn {Q : Value → Shared → Prop} (hu : A.units + 1 < cLine) (I : Inv X pins σ H s) (g : DGet H a y o) (ry : RelV y u) (h : ∀ s', Inv X pins σ H s' → Q (.bool (!o.isSome)) s') :
    wpAny (model X.prog X.w) A (compareOp .NotIn u (.ref a)) Q E s := by
  rcases g with ⟨kvs, k, e, ey, l⟩ | ⟨kvs, k, b, e, ey, eb, l⟩
  · subst ey
    obtain ⟨z, hd, vs, rel, dd⟩ := dk_rd I.hok e
    refine wpAny_notIn_of (kV_is ry) hd dd.mapOf ?_
    rw [← (rel.val k).isSome_eq, ← l]
    exact h _ (I.tok _)
  · subst ey
    cases (show u = Value.ref b from ry)
    obtain ⟨z, hd, xs, rel, dd⟩ := dt_rd I.hok e
    refine wpAny_notIn_heap (tupleKind_room_in1 hu) (key_of I.hok eb) hd dd ?_
    have q := (rel.val k).isSome_eq
    rw [Option.isSome_map] at q
    rw [← q, ← l]
    exact h _ (I.tok _)
theorem d_write {h' : Heap} {t' : Nat} {ob : HO} (I : Inv X pins σ H s) (mu : Mut (H a)) (hs : Heap.SameBut a s.heap h') (he : ∃ q, h'.get? a = some q) (new : ObjOk X.prog X.w (upd H a ob) h' a ob) :
    Inv X pins σ (upd H a ob) { s with heap := h', toks := t' } :=
  I.write (x := a) (e := a) mu (.inl rfl) (fun b q hb z => (hs.2 b hb).trans z) he new
theorem dk_new {P : Program} {w : World} {H' : Hp} {h' : Heap} {kvs : List (Key × V)} {vs : List (Key × Value)} (z : kvs.length ≤ sizeLine) (hd : (a == sysModules) = false) (rel : KV kvs vs) (dd : h'.DictOf (mixKind P w) a vs) :
    ObjOk P w H' h' a (.dK kvs) := ⟨z, hd, vs, rel, dd⟩
theorem d_setItem {H' : Hp} {Q : Unit → Shared → Prop} (hu : A.units + 1 < cLine) (I : Inv X pins σ H s) (g : DPut H a y v H') (ry : RelV y u) (rv : RelV v r) (h : ∀ s', Inv X pins σ H' s' → Q () s') :
    wpAny (model X.prog X.w) A (setItem (.ref a) u r) Q E s := by
  rcases g with ⟨kvs, k, e, ey, l, eH⟩ | ⟨kvs, k, b, e, ey, eb, l, eH⟩
  · subst ey eH
    obtain ⟨z, hd, vs, rel, dd⟩ := dk_of I.hok e
    have hz : vs.length ≤ sizeLine := by rw [← rel.length]; exact z
    have hl : (putK kvs k v).length ≤ sizeLine := by have := length_putK kvs k v; omega
    refine wpAny_setItem_pairs (hsz := hz) (kV_is ry) dd fun h' dd' hs => h _ ?_
    have he : ∃ q, h'.get? a = some q := let ⟨q, _, _, hq, _⟩ := dd'; ⟨q, hq⟩
    exact d_write I (by rw [e]; exact True.intro) hs he (dk_new hl hd (rel.put k rv) dd')
  · subst ey eH
    cases (show u = Value.ref b from ry)
    obtain ⟨z, hd, xs, rel, dd⟩ := dt_of I.hok e
    have hz : xs.length ≤ sizeLine := by rw [← Paired.length rel]; exact z
    have hl : (putK kvs k v).length ≤ sizeLine := by have := length_putK kvs k v; omega
    refine wpAny_setItem_heap (hsz := hz) (tupleKind_room_in1 hu) (key_of I.hok eb) dd fun h' dd' hs => h _ ?_
    obtain ⟨q, es, ep, hq, h2, h3, h4, _, h5⟩ := dd'
    refine d_write I (by rw [e]; exact True.intro) hs ⟨q, hq⟩ ⟨hl, hd, _, (rel.put k eb rv).keeps fun c ys ec => ?_, q, es, ep, hq, h2, h3, h4, h5⟩
    rw [upd_ne (ne_of ec e (fun z => nomatch z))]
    exact ec
end
section
variable {X : Cx} {pins : List (Addr × Obj)} {σ : St} {H : Hp} {s : Shared} {a : Addr} {kvs : List (Key × V)} {k : Key} {u : Value} {A : Around} {E : Value → Shared → Prop}
end
theorem dict_typeIs {X : Cx} {pins : List (Addr × Obj)} {σ : St} {H : Hp} {s : Shared} {a : Addr} {y : V} {o : Option V} (I : Inv X pins σ H s) (g : DGet H a y o) : s.TypeIs (.ref a) "dict" := by
 rcases g with ⟨kvs, k, e, _, _⟩ | ⟨kvs, k, b, e, _, _, _⟩
 · obtain ⟨_, _, vs, _, dd⟩ := dk_rd I.hok e
   exact dd.typeIs
 · obtain ⟨_, _, xs, _, dd⟩ := dt_rd I.hok e
   exact dd.typeIs
section
variable {X : Cx} {o i e value : Expr} {pos pos' tpos : Pos} {td ty tv : TE}
end
theorem dk_empty {P : Program} {w : World} {H : Hp} (h : Heap) (hb : sysModules < h.objs.size) : ObjOk P w H (h.push { cls := .type "dict", data := .dict #[] }) h.objs.size (.dK []) :=
 ⟨Nat.zero_le _, beq_eq_false_iff_ne.mpr (Ne.symm (Nat.ne_of_lt hb)), [], .nil, Heap.DictOf.new h⟩
noncomputable def tDNewK : TE := fun _ H Q => ∀ p, H p = none → Q (.ref p) (upd H p (.dK []))
section
variable {X : Cx} {pos : Pos}
theorem pe_dnewK : PE X (.Dict [] [] pos) tDNewK := fun pins s σ H Q I h =>
 wpAny_Dict_empty ⟨.ref s.heap.objs.size, _, I.laid (a := s.heap.objs.size) (o := .dK []) (t' := s.toks) (fun _ _ q => Heap.get?_push_of_some _ q) (Nat.le_refl _) (dk_empty s.heap I.big), rfl, h _ (I.hok.fresh (Nat.le_refl _))⟩
end
def tPairs : List (TE × TE) → St → Hp → (List (V × V) → Hp → Prop) → Prop
 | [], _, H, Q => Q [] H
 | (tk, tv) :: r, σ, H, Q => tk σ H fun x H1 => tv σ H1 fun y H2 => tPairs r σ H2 fun ps H3 => Q ((x, y) :: ps) H3
abbrev VV : List (V × V) → List (Value × Value) → Prop := Paired fun p q => RelV p.1 q.1 ∧ RelV p.2 q.2
def PPs (X : Cx) (pos : Pos) (keys : List (Option Expr)) (values : List Expr) (trs : List (TE × TE)) : Prop :=
 ∀ (pins : List (Addr × Obj)) (s : Shared) (σ : St) (H : Hp) (Q : List (V × V) → Hp → Prop), Inv X pins σ H s → tPairs trs σ H Q →
  wpAny (model X.prog X.w) X.A (evalPairs (pairTrees keys values X.env pos)) (fun vs s' => ∃ ps H', Inv X pins σ H' s' ∧ VV ps vs ∧ Q ps H') X.xe s
theorem pps_nil {X : Cx} {pos : Pos} : PPs X pos [] [] [] := fun pins s σ H Q I h => pairTrees_nil_walk ⟨[], H, I, .nil, h⟩
theorem pps_cons {X : Cx} {pos : Pos} {k v : Expr} {ks : List (Option Expr)} {vs : List Expr} {tk tv : TE} {trs : List (TE × TE)} (hk : PE X k tk) (hv : PE X v tv) (hr : PPs X pos ks vs trs) :
    PPs X pos (some k :: ks) (v :: vs) ((tk, tv) :: trs) := fun pins s σ H Q I h =>
  pairTrees_cons_walk (thn (hk pins s σ H _ I h) fun u s1 ⟨x, H1, I1, rx, q1⟩ => thn (hv pins s1 σ H1 _ I1 q1) fun w2 s2 ⟨y, H2, I2, ry, q2⟩ =>
    thn (hr pins s2 σ H2 _ I2 q2) fun ws s3 ⟨ps, H3, I3, rel, q3⟩ => ⟨(x, y) :: ps, H3, I3, .cons ⟨rx, ry⟩ rel, q3⟩)
noncomputable def mergeK (kvs more : List (Key × V)) : List (Key × V) := more.foldl (fun acc kv => putK acc kv.1 kv.2) kvs
theorem KV.merge : ∀ {more : List (Key × V)} {rs : List (Key × Value)} {kvs : List (Key × V)} {vs : List (Key × Value)}, KV more rs → KV kvs vs → KV (mergeK kvs more) (merged vs rs) := by
 intro more rs kvs vs r
 unfold KV at r
 induction r generalizing kvs vs with
 | nil => intro q; exact q
 | @cons p q ps qs h t ih =>
  intro r0
  have e : KV (putK kvs p.1 p.2) (stored vs q.1 q.2) := by
   have := r0.put p.1 h.2
   rw [← h.1]; exact this
  exact ih e
theorem length_mergeK : ∀ (more kvs : List (Key × V)), (mergeK kvs more).length ≤ kvs.length + more.length
 | [], kvs => by show kvs.length ≤ kvs.length + 0; omega
 | p :: r, kvs => by
  have h1 := length_mergeK r (putK kvs p.1 p.2)
  have h2 := length_putK kvs p.1 p.2
  show (mergeK (putK kvs p.1 p.2) r).length ≤ _
  rw [List.length_cons]; omega
theorem carries_of {P : Program} {w : World} : ∀ {kvs : List (Key × V)} {ws : List (Value × Value)}, VV (kvs.map fun kv => (kV kv.1, kv.2)) ws → ∃ rs, Carries (mixKind P w) ws rs ∧ KV kvs rs
 | [], _, r => by rw [List.map_nil] at r; cases r; exact ⟨[], True.intro, .nil⟩
 | p :: kvs, _, r => by
  rw [List.map_cons] at r
  cases r with
  | @cons a b as bs h t =>
   obtain ⟨rs, c, q⟩ := carries_of (P := P) (w := w) t
   obtain ⟨b1, b2⟩ := b
   exact ⟨(p.1, b2) :: rs, ⟨kV_is h.1, rfl, c⟩, .cons ⟨rfl, h.2⟩ q⟩
noncomputable def tDisp (trs : List (TE × TE)) : TE := fun σ H Q => ∀ p, H p = none → tPairs trs σ (upd H p (.dK [])) fun ps H2 => H2 p = some (.dK []) ∧ ∃ kvs : List (Key × V), ps = kvs.map (fun kv => (kV kv.1, kv.2)) ∧ kvs.length ≤ 15 ∧ Q (.ref p) (upd H2 p (.dK (mergeK [] kvs)))
theorem pe_disp {X : Cx} {pos : Pos} {keys : List (Option Expr)} {values : List Expr} {trs : List (TE × TE)} (h : PPs X pos keys values trs) (hall : keys.all (·.isSome) = true) (hl : keys.length = values.length) (h0 : keys ≠ [])
    (h15 : keys.length ≤ 15) : PE X (.Dict keys values pos) (tDisp trs) := by
  intro pins s σ H Q I q
  have hn := I.hok.fresh (Nat.le_refl s.heap.objs.size)
  have I1 := I.laid (a := s.heap.objs.size) (o := .dK []) (h' := s.heap.push { cls := .type "dict", data := .dict #[] }) (t' := s.toks) (fun _ _ q => Heap.get?_push_of_some _ q) (Nat.le_refl _) (dk_empty s.heap I.big)
  refine wpAny_Dict_walk (knd := mixKind X.prog X.w) hall hl h0 h15 (thn (h pins _ σ _ _ I1 (q _ hn)) fun ws s2 ⟨ps, H2, I2, rel, e, kvs, ep, lk, q2⟩ => ?_)
  subst ep
  obtain ⟨rs, c, rk⟩ := carries_of (P := X.prog) (w := X.w) rel
  obtain ⟨z, hd, vs0, r0, dd⟩ := dk_of I2.hok e
  cases r0
  refine ⟨rs, c, dd, fun h' dd' hs => ⟨.ref s.heap.objs.size, _, ?_, rfl, q2⟩⟩
  have hz : (mergeK [] kvs).length ≤ sizeLine := by
    have h1 := length_mergeK kvs []
    rw [List.length_nil] at h1
    rw [sizeLine_eq]; omega
  have he : ∃ q, h'.get? s.heap.objs.size = some q := let ⟨q, _, _, hq, _⟩ := dd'; ⟨q, hq⟩
  exact d_write I2 (by rw [e]; exact True.intro) hs he (dk_new hz hd (rk.merge .nil) dd')
structure M2 (X : Cx) (o : Expr) (m : Str) (apos : Pos) (e f : Expr) (cpos : Pos) : Prop where
 base : attributeBase o m X.env (eval o X.env) = eval o X.env
 few : ((backTo cpos (starEach [e, f] X.env)).all (fun x => !x.1) && (backToKw cpos (keywordEach [] X.env)).all (fun x => x.1.isSome)
  && decide (([e, f] : List Expr).length + ([] : List Keyword).length + (if ([] : List Keyword).isEmpty then 0 else 1) < 30)) = true
 line : (apos.endLine == cpos.line) = true
 trees : backTo cpos (starEach [e, f] X.env) = [(false, eval e X.env), (false, eval f X.env)]
def IsD (H : Hp) (a : Addr) : Prop := (∃ kvs, Rd H a (.dK kvs)) ∨ ∃ kvs, Rd H a (.dT kvs)
theorem isD_at {X : Cx} {pins : List (Addr × Obj)} {σ : St} {H : Hp} {s : Shared} {a : Addr} (I : Inv X pins σ H s) (d : IsD H a) :
    s.TypeIs (.ref a) "dict" ∧ (∀ b, Value.ref a = .ref b → ∃ ob, s.heap.get? b = some ob ∧ ob.dict = none) ∧ (a == sysModules) = false := by
  rcases d with ⟨kvs, e⟩ | ⟨kvs, e⟩
  · obtain ⟨_, hd, vs, _, dd⟩ := dk_rd I.hok e
    refine ⟨dd.typeIs, fun b q => ?_, hd⟩
    cases q
    obtain ⟨ob, _, _, h1, h2, _⟩ := dd
    exact ⟨ob, h1, h2.2.1⟩
  · obtain ⟨_, hd, xs, _, dd⟩ := dt_rd I.hok e
    refine ⟨dd.typeIs, fun b q => ?_, hd⟩
    cases q
    obtain ⟨ob, _, _, h1, h2, _⟩ := dd
    exact ⟨ob, h1, h2.2.1⟩
section
variable {X : Cx} {pins : List (Addr × Obj)} {σ : St} {H : Hp} {s : Shared} {a : Addr} {y d : V} {u r : Value} {o : Option V} {A : Around} {E : Value → Shared → Prop}
theorem d_get2 {Q : Value → Shared → Prop} (hu : A.units + 1 < cLine) (I : Inv X pins σ H s) (g : DGet H a y o) (ry : RelV y u) (rd : RelV d r) (h : ∀ w' s', Inv X pins σ H s' → RelV (o.getD d) w' → Q w' s') :
    wpAny (model X.prog X.w) A (call (.builtin "dict.get") [.ref a, u, r]) Q E s := by
  rcases g with ⟨kvs, k, e, ey, l⟩ | ⟨kvs, k, b, e, ey, eb, l⟩
  · subst ey
    obtain ⟨z, hd, vs, rel, dd⟩ := dk_rd I.hok e
    refine call_meetsIn PySem.F.slot_dict_get dd.typeIs PySem.F.entry_dict_get (PySem.F.args_dict_get_3 _ _ _) (meets_dict_get_default (mixKind X.prog X.w) a (kV_is ry) hd r) ⟨_, dd.mapOf, h _ _ (I.tok _) ?_⟩
    rw [l]
    exact (rel.val k).getD rd
  · subst ey
    cases (show u = Value.ref b from ry)
    obtain ⟨z, hd, xs, rel, dd⟩ := dt_rd I.hok e
    refine call_meetsIn PySem.F.slot_dict_get dd.typeIs PySem.F.entry_dict_get (PySem.F.args_dict_get_3 _ _ _) (meetsH_dict_get_default (tupleKind (mixKind X.prog X.w)) a b hd r) ⟨tupleKind_room_in1 hu, k, xs, key_of I.hok eb, dd, h _ _ (I.tok _) ?_⟩
    rw [l]
    exact (rel.val k).getD rd
end
noncomputable def tDGet2 (td ty tx : TE) : TE := fun σ H Q => td σ H fun x H1 => ∃ a, x = .ref a ∧ IsD H1 a ∧ ty σ H1 fun y H2 => tx σ H2 fun z H3 => ∃ o, DGet H3 a y o ∧ Q (o.getD z) H3
section
variable {X : Cx} {o e f : Expr} {apos cpos : Pos} {td ty tx : TE}
theorem pe_dget2 (hu : X.A.units + 1 < cLine) (ho : PE X o td) (he : PE X e ty) (hf : PE X f tx) (m : M2 X o "get" apos e f cpos) : PE X (.Call (.Attribute o "get" apos) [e, f] [] cpos) (tDGet2 td ty tx) := by
 intro pins s σ H Q I h
 refine wpAny_Call_method m.base m.few m.line PySem.F.plainAttrs_dict PySem.F.slot_dict_get PySem.F.type_dict_get (thn (ho pins s σ H _ I h) fun u s1 ⟨x, H1, I1, rx, a, ex, d, q1⟩ => ?_)
 subst ex
 obtain rfl : u = Value.ref a := rx
 obtain ⟨t1, t2, _⟩ := isD_at I1 d
 refine ⟨t1, t2, ?_⟩
 rw [m.trees]
 refine Calls.callWith_builtin rfl (Calls.evalArgs_plain (Calls.spliced_cons (thn (he pins s1 σ H1 _ I1 q1) fun iv s2 ⟨y, H2, I2, ry, q2⟩ =>
  Calls.spliced_cons (thn (hf pins s2 σ H2 _ I2 q2) fun fv s3 ⟨z, H3, I3, rz, ov, g, q3⟩ => Calls.spliced_nil ?_))))
 exact d_get2 hu I3 g ry rz fun w' s4 I4 rw' => ⟨_, H3, I4, rw', q3⟩
end
section
variable {X : Cx} {pins : List (Addr × Obj)} {σ : St} {H : Hp} {s : Shared} {a : Addr} {kvs : List (Key × V)} {A : Around} {E : Value → Shared → Prop}
end
section
variable {X : Cx} {pins : List (Addr × Obj)} {σ : St} {H : Hp} {s : Shared} {a : Addr} {y : V} {u : Value} {A : Around} {E : Value → Shared → Prop}
end
end L2
namespace Att
open PySem PySem.W PySem.Calls PyProof.Rows
theorem ints_of_wellAll {P : Params} {h : Heap} : ∀ (ns : List Int) (vs : List Value), WellAll P h vs (ns.map WData.int) → IntsAre vs ns := by
 intro ns
 induction ns with
 | nil =>
  intro vs w
  rw [List.map_nil] at w
  cases w
  exact .nil
 | cons n ns ih =>
  intro vs w
  rw [List.map_cons] at w
  cases w with
  | cons a b =>
   cases a
   exact .cons _ _ (ih _ b)
theorem script_of {l : OpenLaw} {n : Nat} (hn : l.most = some n) {P : Params} {h : Heap} {args : List WData} {vals : List Value}
    (hpre : l.row.toRowW.claim.pre args = true) (hwl : WellAll P h vals args) :
    ∃ a vs ns, vals = [Value.ref a] ∧ args = [WData.list (ns.map WData.int)] ∧ h.get? a = some { cls := .type "list", data := .seq vs.toArray } ∧ IntsAre vs ns ∧ ns.length ≤ n := by
  have hsh : WShape.hasAll [] args [.list .int] = true := (pre_splitW hpre).1
  have hc : l.pre.holds [] { args := args } = true := (pre_splitW hpre).2
  obtain ⟨d, r, rfl, h1, h2⟩ := hasAllW_cons hsh
  obtain rfl := hasAllW_nil h2
  obtain ⟨xs, rfl, h3⟩ := hasW_list h1
  obtain ⟨ns, rfl⟩ := items_int h3
  have hlen : ns.length ≤ n := by
    unfold OpenLaw.pre at hc
    have h4 : (WTm.not (.lt (.lit (.int (n : Int))) (.len (.arg 0)))).holds [] { args := [.list (ns.map .int)] } = true := by
      have h4 := (holds_andW hc).1
      rw [hn] at h4
      exact h4
    have h5 := condW_of h4 (w_not (w_lt w_lit (w_len_list (w_arg rfl))))
    rw [List.length_map] at h5
    refine Nat.le_of_not_lt fun q => ?_
    have q' : (n : Int) < ((ns.length : Nat) : Int) := by omega
    first
      | (rw [decide_eq_true q'] at h5; exact absurd h5 (by decide))
      | (simp at h5; omega)
  cases hwl with
  | cons w1 w2 =>
    cases w2
    cases w1 with
    | list ho hall => exact ⟨_, _, ns, rfl, rfl, ho, ints_of_wellAll ns _ hall, hlen⟩
theorem post_true (l : OpenLaw) (args : List WData) : l.row.toRowW.claim.post args (.bool true) args = true :=
 postW_of (r := l.row.toRowW) (X := (true == true))
  (show WShape.has [] (.bool true) .bool = true by first | rfl | decide | simp [WShape.has, WShape.arms, WShape.armsAll])
  (show (WTm.eq .res (.lit (.bool true))).value [] { args := args, res := some (.bool true), after := args } = some (.bool (true == true)) from w_eq_bool (w_res rfl) w_lit) rfl
theorem attach_call {l : OpenLaw} {n : Nat} {q : Program} {loose : List Str} {XP : (Str → Option Value) → Heap → Prop} {YP : World → Heap → Prop} {d : DefRec}
    (hn : l.most = some n) (hdf : d.params.defaults = [])
    (call : ∀ (w : World) (s₀ s₁ : Shared) (mg mb : Str → Option Value) (fa : Addr) (o : Obj) (pm cd doc : Value) (a : Addr) (vs : List Value) (ns : List Int),
      Ground q loose [] XP w s₀ mg mb s₁.heap → YP w s₁.heap →
      s₁.heap.get? fa = some o → o.data = .func (docDef d.name d.params d.body d.scope pm cd doc) → s₁.heap.CodeRec cd d.name → mg d.name = some (.ref fa) →
      s₁.heap.get? a = some { cls := .type "list", data := .seq vs.toArray } → IntsAre vs ns → ns.length ≤ n → s₁.gens = #[] →
      codeAny (model l.prog w) callerA (.call (.ref fa) ⟨[.ref a], []⟩) (fun r s' => r = .ok (.ret (.bool true)) ∧ OldK s₁.heap s'.heap ∧ s'.os = s₁.os ∧ AllBare s'.gens) s₁) :
    WalkO q loose XP YP l.row.toRowW d [] (fun f vs => PySem.call f vs) := by
  intro w s₀ s₁ mg mb G Y fa o pm cd doc dV kV ho hd hcd hD hmg hg args vals as hpre hlay hrd hwl hlo
  obtain rfl : dV = .none := Dflts.none hD hdf
  obtain rfl : kV = .none := Dflts.noKw hD
  obtain ⟨a, vs, ns, rfl, rfl, hobj, hints, hlen⟩ := script_of hn hpre hwl
  refine enter_call (codeAny_mono (call w s₀ s₁ mg mb fa o pm cd doc a vs ns G Y ho (fd_plain hd) hcd hmg hobj hints hlen hg) fun r s' hq => ?_)
  obtain ⟨rfl, h2, h3, h4⟩ := hq
  exact ⟨.inl ⟨.bool true, .bool true, [], rfl, fun _ => rfl, .bool true, post_true l _, fun _ => ⟨List.Pairwise.nil, fun _ hm => (nomatch hm)⟩⟩, h2, h3, h4⟩
section
variable {prog : Program} {w : World} {A : Around} {E : Value → Shared → Prop} {s : Shared} {K : Frag}
end
end Att
namespace L2
open PySem PySem.Spec PyProof.Rows
theorem vals_ints : ∀ {vs : List Value} {ns : List Int}, IntsAre vs ns → Vals (ns.map V.int) vs
 | _, _, .nil => .nil
 | _, _, .cons n t h => .cons ⟨t, rfl⟩ (vals_ints h)
def Only (H : Hp) : Prop := ∀ b, H b = none ∨ ∃ o xs, H b = some (.frz o (.lst xs))
theorem law_call {P : Program} {w : World} {K : PySem.W.Frag} {mg mb : Str → Option Value} {CX : CXT} {k : Nat} {fa a : Addr} {fd : FuncData} {x : Str} {sp : Sp} {s₁ : Shared} {vs : List Value} {ns : List Int}
    (KX : K.In s₁.heap) (hns : s₁.heap.Ns mainGlobals mg) (hb : s₁.heap.Ns builtinsNs mb) (hbb : ∀ x : Str, x ≠ "__name__" → mb x = bootBuiltins x) (hlim : s₁.heap.NoLimit) (hg : s₁.gens = #[])
    (ha : s₁.heap.get? a = some { cls := .type "list", data := .seq vs.toArray }) (hi : IntsAre vs ns) (hl : ns.length ≤ sizeLine) (hr : Room k callerA)
    (F : ∀ base : Heap, K.In base → base.Ns mainGlobals mg → FnOk P w K mg base CX k fa fd [x] sp) (hbind : ∀ (s : Shared) (u : Value), BindsTo s fd ⟨[u], []⟩ [(x, u)])
    (hsp : ∀ H : Hp, Only H → SqL K H a (ns.map V.int) → sp [.ref a] H (fun v _ => v = .bl true) fun _ _ _ => False)
    (hCX : ∀ H e s', CX [] H s₁ (fun _ _ _ => False) e s' → False) :
    codeAny (model P w) callerA (.call (.ref fa) ⟨[.ref a], []⟩) (fun r s' => r = .ok (.ret (.bool true)) ∧ OldK s₁.heap s'.heap ∧ s'.os = s₁.os ∧ AllBare s'.gens) s₁ := by
  have rv := vals_ints hi
  have lenV := hi.length
  have core : ∀ H : Hp, Only H → SqL K H a (ns.map V.int) → HOk P w H s₁.heap → (∀ b, H b ≠ none → b = a) → (H a ≠ none → K.lookup a = none) →
      codeAny (model P w) callerA (.call (.ref fa) ⟨[.ref a], []⟩) (fun r s' => r = .ok (.ret (.bool true)) ∧ OldK s₁.heap s'.heap ∧ s'.os = s₁.os ∧ AllBare s'.gens) s₁ := by
    intro H hO hS hok hA hK
    have base_of : ∀ {b : Addr} {o : Obj}, s₁.heap.get? b = some o → H b = none → (hidT s₁.heap H).get? b = some o := fun e n => hidT_get e n
    have noA : ∀ {b : Addr} {o : Obj} {es : Array DictEntry} {ep : Nat}, s₁.heap.get? b = some o → o.data = .dict es ep → H b = none := fun {b o es ep} e d => by
      cases q : H b with
      | none => rfl
      | some u =>
        have e' : b = a := hA b (by rw [q]; simp)
        subst e'
        rw [ha] at e; cases e
        have d' : Data.seq vs.toArray _ = Data.dict es ep := d
        cases d'
    have nsK : ∀ {b : Addr} {m : Str → Option Value}, s₁.heap.Ns b m → (hidT s₁.heap H).Ns b m := fun {b m} ⟨o, es, ep, e, d, r⟩ => ⟨o, es, ep, base_of e (noA e d), d, r⟩
    have hKb : K.In (hidT s₁.heap H) := fun b o e => base_of (KX b o e) (by
      cases q : H b with
      | none => rfl
      | some u =>
        have e' : b = a := hA b (by rw [q]; simp)
        subst e'
        rw [hK (by rw [q]; simp)] at e; cases e)
    have hM : Mod K mg (hidT s₁.heap H) := ⟨hKb, nsK hns, ⟨mb, nsK hb, hbb⟩, let ⟨mc, h1, h2⟩ := hlim; ⟨mc, nsK h1, h2⟩⟩
    have e0 : Env0 P w K mg (hidT s₁.heap H) callerA [] s₁ H := ⟨rfl, hM, fun b o e => of_hidT e, Nat.le_of_eq (hidT_size _ _), trivial, fun b hb => absurd (show b ∈ ([] : List Addr) from hb) (by simp), hok, .of_eq hg⟩
    refine codeAny_mono ((F _ hKb (nsK hns)).run callerA [] s₁ H ⟨[.ref a], []⟩ [.ref a] [.ref a] _ _ hr e0 (hbind s₁ (.ref a)) (.cons rfl .nil) (hsp H hO hS)) fun r s' h => ?_
    cases r with
    | error e => exact (hCX H e s' h).elim
    | ok fl =>
      cases fl with
      | next => exact False.elim h
      | brk => exact False.elim h
      | cont => exact False.elim h
      | ret u =>
        obtain ⟨v, H', os, bare, un, hok', r', q⟩ := h
        have q' : v = .bl true := q
        subst q'
        obtain rfl : u = Value.bool true := r'
        refine ⟨rfl, OldK.of_keep fun b o e => ?_, os, bare⟩
        cases q : H b with
        | none => exact un.keep b o e q (by intro z; exact absurd (show b ∈ ([] : List Addr) from z) (by simp)) (by simp)
        | some u =>
          rcases hO b with z | ⟨ob, xs, z⟩
          · rw [q] at z; cases z
          · have z2 := un.frzs b ob _ z
            obtain ⟨e1, _⟩ := hok b _ z
            obtain ⟨e2, _⟩ := hok' b _ z2
            rw [e] at e1; cases e1
            exact e2
  cases hk : K.lookup a with
  | some o =>
    have e := KX a o hk
    rw [ha] at e
    cases e
    refine core (fun _ => none) (fun _ => .inl rfl) (.inr ⟨_, vs.toArray, _, hk, rfl, rfl, rfl, by rw [List.size_toArray, lenV]; exact hl, by simpa using rv⟩) (fun b u z => by have z' : (none : Option HO) = some u := z; cases z') (fun b z => absurd rfl z) fun z => absurd rfl z
  | none =>
    refine core (fun b => if b = a then some (.frz { cls := .type "list", data := .seq vs.toArray } (.lst (ns.map V.int))) else none) (fun b => ?_) (.inl (.inr ⟨{ cls := .type "list", data := .seq vs.toArray }, if_pos rfl⟩)) (fun b u z => ?_) (fun b z => ?_) fun _ => hk
    · by_cases hb : b = a
      · exact .inr ⟨_, _, if_pos hb⟩
      · exact .inl (if_neg hb)
    · by_cases hb : b = a
      · have z' := (if_pos hb).symm.trans z
        cases z'
        subst hb
        exact ⟨ha, by rw [List.length_map]; exact hl, vs, _, rv, ha⟩
      · have z' := (if_neg hb).symm.trans z
        cases z'
    · by_cases hb : b = a
      · exact hb
      · exact absurd (if_neg hb) z
end L2
namespace L2
open PySem PySem.Spec PyProof.Rows
theorem walk_of {l : PySem.W.OpenLaw} {n k : Nat} {q : Program} {loose : List Str} {XP : (Str → Option Value) → Heap → Prop} {YP : World → Heap → Prop} {d : DefRec} {K : Params → PySem.W.Frag} {CX : World → CXT} {sp : World → Sp} {x : Str}
    (hn : l.most = some n) (hn2 : n ≤ sizeLine) (hdf : d.params.defaults = []) (hr : Room k callerA)
    (hY : ∀ (w : World) (h : Heap), YP w h → (K w.params).In h)
    (F : ∀ (w : World) (mg : Str → Option Value) (fa : Addr) (h : Heap), (K w.params).In h → h.Ns mainGlobals mg → mg d.name = some (.ref fa) →
      ∃ fd : FuncData, (∀ (s : Shared) (u : Value), BindsTo s fd ⟨[u], []⟩ [(x, u)]) ∧
        ∀ base : Heap, (K w.params).In base → base.Ns mainGlobals mg → FnOk l.prog w (K w.params) mg base (CX w) k fa fd [x] (sp w))
    (hsp : ∀ (w : World) (H : Hp) (a : Addr) (ns : List Int), ns.length ≤ n → Only H → SqL (K w.params) H a (ns.map V.int) → sp w [.ref a] H (fun v _ => v = .bl true) fun _ _ _ => False)
    (hCX : ∀ (w : World) (H : Hp) (s : Shared) (e : Value) (s' : Shared), CX w [] H s (fun _ _ _ => False) e s' → False) :
    PySem.W.WalkO q loose XP YP l.row.toRowW d [] (fun f vs => PySem.call f vs) := by
  refine Att.attach_call hn hdf fun w s₀ s₁ mg mb fa o pm cd doc a vs ns G Y ho hd hcd hmg hobj hints hlen hg => ?_
  have KX := hY w _ Y
  obtain ⟨fd, hb, hF⟩ := F w mg fa _ KX G.T.g hmg
  exact law_call KX G.T.g G.T.b G.T.builtins G.T.nolimit hg hobj hints (Nat.le_trans hlen hn2) hr hF hb (fun H hO hS => hsp w H a ns hlen hO hS) fun H e s' => hCX w H s₁ e s'
end L2
namespace L2
open PySem PySem.Spec PyProof.Rows
noncomputable def defArgs (s : Stmt) : Arguments := match s with
 | .FunctionDef _ a _ _ _ _ _ _ _ _ => a
 | _ => { posonlyargs := [], args := [], vararg := none, kwonlyargs := [], kw_defaults := [], kwarg := none, defaults := [] }
noncomputable def defBody (s : Stmt) : List Stmt := match s with
 | .FunctionDef _ _ b _ _ _ _ _ _ _ => b
 | _ => []
noncomputable def defScope (s : Stmt) : Scope := match s with
 | .FunctionDef _ _ _ _ _ _ sc _ _ _ => sc
 | _ => { kind := .function, names := [], isGenerator := false, isCoroutine := false }
abbrev CX0 : CXT := fun _ _ _ _ _ _ => False
structure Fun (K : PySem.W.Frag) (x qual : Str) (st : Stmt) (f : Addr) (fd : FuncData) : Prop where
 ex : ∃ (oc : Value) (od : Option Addr) (kV doc pm : Value) (an : Option Addr) (cdv ct : Value) (osl : Array (Option Value)),
  fd = PySem.W.fnOf x qual (defArgs st) (defBody st) (defScope st) .none kV doc pm an cdv ct ∧ K.lookup f = some ⟨oc, od, .func fd, osl⟩ ∧ PySem.W.codeIn K cdv qual = true
 kp : PySem.W.keepIn K (.ref f) = true
section
variable {P : Program} {w : World} {K : PySem.W.Frag} {mg : Str → Option Value} {base : Heap}
theorem Fun.ok {x qual : Str} {st : Stmt} {f : Addr} {fd : FuncData} {N ps : List Str} {k : Nat} {sp : Sp} (F : Fun K x qual st f fd) (S : FnScope N ps (defScope st)) (len : ∀ vs H Q E, sp vs H Q E → vs.length = ps.length)
    (hbody : ∀ (cdv : Value) (A : Around) (outer : List Env) (s : Shared) (H : Hp) (vs : List V) (Q : VK) (E : XK), Room k (A.deeper (envOfC qual (defScope st) s.heap.objs.size f cdv)) → sp vs H Q E →
      ∃ t, PSs (cxOf CX0 P w K mg base N qual (defScope st) f cdv A outer s H E).nox (defBody st) t ∧ t { nx := fun _ H' => Q .non H', rt := Q } (start N vs) H) : FnOk P w K mg base CX0 (k + 1) f fd ps sp := by
  obtain ⟨oc, od, kV, doc, pm, an, cdv, ct, osl, rfl, lk, hcd⟩ := F.ex
  refine fn_of lk hcd S len fun A outer s H vs Q E hr hsp => ?_
  obtain ⟨t, h, q⟩ := hbody cdv A outer s H vs Q E hr hsp
  exact ⟨t, h.nox, q⟩
end
section
variable {X : Cx}
theorem pv (i : Nat) {x : Str} {pos : Pos} (hN : X.N[i]? = some x := by rfl) (hv : Vis X.env.scope x := by first | exact Or.inl rfl | exact Or.inr (Or.inl rfl) | exact Or.inr (Or.inr rfl)) (hd : (x == ("__debug__" : Str)) = false := by decide)
    (hcd : (x == ("__classdict__" : Str)) = false := by decide) : PE X (.Name x pos) (tVar i) := pe_var hN hv hd hcd
end
theorem iteF {A B : Prop} (h : B) : if false = true then A else B := by
 rw [if_neg Bool.false_ne_true]
 exact h
theorem iteT {A B : Prop} (h : A) : if true = true then A else B := by
 rw [if_pos rfl]
 exact h
def Same (H H' : Hp) : Prop := ∀ b o, H b = some o → H' b = some o
theorem Same.trans {H H1 H2 : Hp} (a : Same H H1) (b : Same H1 H2) : Same H H2 := fun c o h => b c o (a c o h)
theorem Same.free {H H' : Hp} (e : Same H H') {l : Addr} (h : H' l = Option.none) : H l = Option.none := by
 cases q : H l with
 | none => rfl
 | some o =>
  rw [e l o q] at h
  cases h
section
variable {κ : Type} [DecidableEq κ]
end
end L2
namespace DD
open PySem PySem.Builtin L2
open PyProof.Rows (IsTup.new)
theorem tuple_mulA (l : Addr) (items : Array Value) (n : Nat) (dd : Option Addr) (sl : Array (Option Value)) (x : Int) (u : Tok) (h1 : (decide (x < -2 ^ 63) || decide (x ≥ 2 ^ 63)) = false) (h2 : (items.isEmpty || x == 1) = true) :
    Meets (Builtin.«tuple.__mul__» ⟨[.ref l, .int x u], []⟩) (fun _ R s => s.heap.get? l = some { cls := .type "tuple", dict := dd, data := .seq items n, slots := sl } ∧ R (.ok (.ret (Value.ref l))) s) :=
  .of_wp fun pr wd Ar Rs s0 hh => by
    obtain ⟨hp0, gn, dr, tk0, os0⟩ := s0
    obtain ⟨hl, hh⟩ := hh
    wp_walk
    refine wpAny_ite_false (by rw [h1]; rfl) ?_
    wp_walk
    exact ⟨_, rfl, hh⟩
theorem tuple_mulB (l : Addr) (items : Array Value) (n : Nat) (dd : Option Addr) (sl : Array (Option Value)) (x : Int) (u : Tok) (h1 : (decide (x < -2 ^ 63) || decide (x ≥ 2 ^ 63)) = false) (h2 : (items.isEmpty || x == 1) = false) (h3 : (decide (x ≤ 0) || items.isEmpty) = true) :
    Meets (Builtin.«tuple.__mul__» ⟨[.ref l, .int x u], []⟩) (fun _ R s => s.heap.get? l = some { cls := .type "tuple", dict := dd, data := .seq items n, slots := sl } ∧ R (.ok (.ret (Value.ref s.heap.objs.size))) { s with heap := s.heap.push { cls := .type "tuple", data := .seq #[] } }) :=
  .of_wp fun pr wd Ar Rs s0 hh => by
    obtain ⟨hp0, gn, dr, tk0, os0⟩ := s0
    obtain ⟨hl, hh⟩ := hh
    wp_walk
    refine wpAny_ite_false (by rw [h1]; rfl) ?_
    wp_walk
    exact ⟨_, rfl, hh⟩
theorem tuple_mulC (l : Addr) (items : Array Value) (n : Nat) (dd : Option Addr) (sl : Array (Option Value)) (x : Int) (u : Tok) (h1 : (decide (x < -2 ^ 63) || decide (x ≥ 2 ^ 63)) = false) (h2 : (items.isEmpty || x == 1) = false) (h3 : (decide (x ≤ 0) || items.isEmpty) = false) (h4 : ¬ ((items.size : Int) * x > (2 ^ 63 - 1) / 8)) (h5 : Tuple.tupleTooMany ((items.size : Int) * x) = false) (h6 : (List.foldl (fun x1 x2 => x1 ++ x2) #[] (List.replicate x.toNat items)).size ≤ sizeLine) :
    Meets (Builtin.«tuple.__mul__» ⟨[.ref l, .int x u], []⟩) (fun _ R s => s.heap.get? l = some { cls := .type "tuple", dict := dd, data := .seq items n, slots := sl } ∧ R (.ok (.ret (Value.ref s.heap.objs.size))) { s with heap := s.heap.push { cls := .type "tuple", data := .seq (List.foldl (fun x1 x2 => x1 ++ x2) #[] (List.replicate x.toNat items)) } }) :=
  .of_wp fun pr wd Ar Rs s0 hh => by
    obtain ⟨hp0, gn, dr, tk0, os0⟩ := s0
    obtain ⟨hl, hh⟩ := hh
    wp_walk
    refine wpAny_ite_false (by rw [h1]; rfl) ?_
    wp_walk
    refine wpAny_ite_false (decide_eq_false h4) ?_
    wp_walk
    exact ⟨_, rfl, hh⟩
theorem int_rmul_tuple (a : Int) (t : Tok) (l : Addr) (items : Array Value) (n : Nat) (dd : Option Addr) (sl : Array (Option Value)) :
    Meets (Builtin.«int.__rmul__» ⟨[.int a t, .ref l], []⟩) (fun _ R s => s.heap.get? l = some { cls := .type "tuple", dict := dd, data := .seq items n, slots := sl } ∧ R (.ok (.ret Value.notImplemented)) s) :=
  .of_wp fun pr wd Ar Rs s0 hh => by
    obtain ⟨hp0, gn, dr, tk0, os0⟩ := s0
    obtain ⟨hl, hh⟩ := hh
    wp_walk
    exact ⟨_, rfl, hh⟩
theorem noFill_tuple_mul : fillsNumberSlot (.type "tuple") "mul" = pure false :=
 fillsNumberSlot_seq (id := "tuple.__mul__") (r := some (.builtin "tuple.__rmul__")) PySem.F.slot_tuple_mul.lookup (by decide +kernel) PySem.F.slot_tuple_rmul.lookup (by decide +kernel)
theorem repeat_tuple : seqRepeat? (.type "tuple") = pure (some (.builtin "tuple.__mul__")) := by
 unfold seqRepeat?
 rw [seqSlot_of (T := "tuple") (name := "__mul__") (id := "tuple.__mul__") PySem.F.slot_tuple_mul.lookup (by decide +kernel), seqSlot_of (T := "tuple") (name := "__rmul__") (id := "tuple.__rmul__") PySem.F.slot_tuple_rmul.lookup (by decide +kernel)]
 rfl
theorem flat_len {α : Type} (k : Nat) (xs : List α) : (List.replicate k xs).flatten.length = k * xs.length := by simp
noncomputable def rRepT (K : PySem.W.Frag) : R2 := fun x y H Q => ∃ a k xs, x = .ref a ∧ y = .int k ∧ SqT K H a xs ∧ -(2 ^ 63) ≤ k ∧ k < 2 ^ 63 ∧ xs.length * k.toNat ≤ sizeLine ∧
 (((List.replicate k.toNat xs).flatten = xs → Q (.ref a) H) ∧ ∀ p, H p = none → Q (.ref p) (upd H p (.tup (List.replicate k.toNat xs).flatten)))
theorem op_repT {X : Cx} : OpR X (binaryOp .Mult) (rRepT X.K) := by
 intro pins s σ H x y v u Q I rx ry h
 obtain ⟨a, k, xs, rfl, rfl, ha, h1, h2, hz, q1, q2⟩ := h
 cases rx
 obtain ⟨t, rfl⟩ := ry
 obtain ⟨its, r, p, hsz⟩ := I.tuple ha
 obtain ⟨⟨cls, dd, data, sl⟩, ho, hc, n, hd⟩ := id p
 simp only at hc hd
 subst hc hd
 have e1 : (decide (k < -2 ^ 63) || decide (k ≥ 2 ^ 63)) = false := by
  rw [decide_eq_false (by omega), decide_eq_false (by omega)]; rfl
 have hl := r.length
 refine wpAny_binaryOp_repeat_ref (T := "tuple") (U := "int") (by decide) ⟨_, ho, rfl⟩ (fun s' => typeIs_int s' k t) noFill_tuple_mul PySem.F.fills_int_mul PySem.F.slot_int_rmul repeat_tuple PySem.F.slot_int_index.lookup
  (call_meets PySem.F.slot_int_rmul (typeIs_int s k t) PySem.F.entry_int_rmul (PySem.F.args_int_rmul_2 _ _) (int_rmul_tuple k t a its.toArray n dd sl)
   ⟨ho, rfl, ⟨_, ho, rfl⟩, ?_⟩)
 cases e2 : (its.toArray.isEmpty || k == 1) with
 | true =>
  refine call_meets PySem.F.slot_tuple_mul ⟨_, ho, rfl⟩ PySem.F.entry_tuple_mul (PySem.F.args_tuple_mul_2 _ _) (tuple_mulA a its.toArray n dd sl k t e1 e2) ⟨ho, ?_⟩
  refine ⟨.ref a, H, I, rfl, q1 ?_⟩
  simp only [Bool.or_eq_true, beq_iff_eq] at e2
  rcases e2 with e2 | rfl
  · have : its = [] := by simpa using e2
    subst this
    have : xs = [] := by simpa using hl
    subst this
    simp
  · simp
 | false =>
  cases e3 : (decide (k ≤ 0) || its.toArray.isEmpty) with
  | true =>
   refine call_meets PySem.F.slot_tuple_mul ⟨_, ho, rfl⟩ PySem.F.entry_tuple_mul (PySem.F.args_tuple_mul_2 _ _) (tuple_mulB a its.toArray n dd sl k t e1 e2 e3) ⟨ho, ?_⟩
   have hk : k.toNat = 0 := by
    simp only [Bool.or_eq_true, decide_eq_true_eq] at e3
    rcases e3 with e3 | e3
    · omega
    · simp [e3] at e2
   rw [hk] at q2
   refine ⟨.ref s.heap.objs.size, _, I.laid (t' := s.toks) (o := .tup []) (fun b ob q => Heap.get?_push_of_some _ q) (Nat.le_refl _) ?_, rfl, q2 _ (I.hok.fresh (Nat.le_refl _))⟩
   exact ⟨by simp, [], .nil, IsTup.new _ _⟩
  | false =>
   simp only [Bool.or_eq_false_iff, decide_eq_false_iff_not] at e3
   have hk : (k.toNat : Int) = k := Int.toNat_of_nonneg (by omega)
   have hz2 : its.length * k.toNat ≤ sizeLine := by rw [← hl]; exact hz
   have hz3 : (its.toArray.size : Int) * k ≤ 16777216 := by
    have : ((its.length * k.toNat : Nat) : Int) ≤ ((sizeLine : Nat) : Int) := Int.ofNat_le.mpr hz2
    rw [Int.natCast_mul, hk] at this
    rw [List.size_toArray]
    exact Int.le_trans this (by decide)
   have hnew : List.foldl (fun x1 x2 => x1 ++ x2) #[] (List.replicate k.toNat its.toArray) = (List.replicate k.toNat its).flatten.toArray := by
    have := foldl_rep its k.toNat []
    rw [List.nil_append] at this
    exact this
   refine call_meets PySem.F.slot_tuple_mul ⟨_, ho, rfl⟩ PySem.F.entry_tuple_mul (PySem.F.args_tuple_mul_2 _ _) (tuple_mulC a its.toArray n dd sl k t e1 e2 (by simp [e3]) (by omega) ?_ ?_) ⟨ho, ?_⟩
   · unfold Tuple.tupleTooMany
     refine decide_eq_false ?_
     have : ((its.length * k.toNat : Nat) : Int) ≤ ((sizeLine : Nat) : Int) := Int.ofNat_le.mpr hz2
     rw [Int.natCast_mul, hk] at this
     rw [List.size_toArray]
     omega
   · rw [hnew, List.size_toArray, flat_len, Nat.mul_comm]; exact hz2
   · rw [hnew]
     refine ⟨.ref s.heap.objs.size, _, I.laid (t' := s.toks) (o := .tup (List.replicate k.toNat xs).flatten) (fun b ob q => Heap.get?_push_of_some _ q) (Nat.le_refl _) ?_, rfl, q2 _ (I.hok.fresh (Nat.le_refl _))⟩
     exact ⟨by rw [flat_len, Nat.mul_comm]; exact hz, _, r.rep k.toNat, IsTup.new _ _⟩
theorem foldl_repG {α : Type} (its : List α) : ∀ (k : Nat) (acc : List α), List.foldl (fun x1 x2 => x1 ++ x2) acc.toArray (List.replicate k its.toArray) = (acc ++ (List.replicate k its).flatten).toArray
 | 0, acc => by simp
 | k + 1, acc => by
  have e : acc.toArray ++ its.toArray = (acc ++ its).toArray := by simp
  have e2 : (acc ++ its) ++ (List.replicate k its).flatten = acc ++ (List.replicate (k + 1) its).flatten := by
   rw [List.replicate_succ, List.flatten_cons, List.append_assoc]
  rw [← e2, ← foldl_repG its k (acc ++ its), ← e, List.replicate_succ, List.foldl_cons]
noncomputable def repS (z : Str) (k : Nat) : Str := ⟨(List.replicate k z.cps.toList).flatten.toArray⟩
theorem op_repS {X : Cx} : OpR X (binaryOp .Mult) (fun x y H Q => ∃ z k, x = .str z ∧ y = .int k ∧ 1 < k ∧ k < 2 ^ 63 ∧ 0 < z.length ∧ z.length * k.toNat ≤ sizeLine ∧ Q (.str (repS z k.toNat)) H) := by
 intro pins s σ H x y v u Q I rx ry h
 obtain ⟨z, k, rfl, rfl, h1, h2, h3, h4, q⟩ := h
 obtain ⟨t, rfl⟩ := rx
 obtain ⟨t', rfl⟩ := ry
 have hz : (z.length == 0) = false := by simp; omega
 have hk : (k.toNat : Int) = k := Int.toNat_of_nonneg (by omega)
 have h5 : (z.length : Int) * k ≤ 16777216 := by
  have : ((z.length * k.toNat : Nat) : Int) ≤ ((sizeLine : Nat) : Int) := Int.ofNat_le.mpr h4
  rw [Int.natCast_mul, hk] at this
  exact Int.le_trans this (by decide)
 have e : (⟨(List.replicate k.toNat z.cps).foldl (· ++ ·) #[]⟩ : Str) = repS z k.toNat := by
  have := foldl_repG z.cps.toList k.toNat []
  rw [List.nil_append, Array.toArray_toList] at this
  unfold repS
  rw [← this]
 refine PySem.P.mul_str (by rw [decide_eq_false (by omega), decide_eq_false (by omega)]; rfl) (fun _ _ hb => ?_) (fun _ _ => decide_eq_false (by omega)) ?_
 · have := (Int.le_ediv_iff_mul_le (a := (z.length : Int)) (b := (2 ^ 63 - 1)) (c := k) (by omega)).mpr (by omega)
   omega
 · rw [if_neg (by omega), if_neg (by simp [hz]; omega), e]
   refine ⟨?_, .str (repS z k.toNat), H, I.tok _, ⟨_, rfl⟩, q⟩
   show (repS z k.toNat).cps.size ≤ sizeLine
   unfold repS
   rw [List.size_toArray, flat_len, Nat.mul_comm]
   exact h4
end DD
set_option genSizeOf false
namespace DD
open PySem
inductive D where
 | non | bl (b : Bool) | int (i : Int) | str (x : Str) | tup (ds : List D) | loc (n : Nat)
 deriving Inhabited
mutual
noncomputable def D.beq : D → D → Bool
 | .non, .non => true
 | .bl a, .bl b => a == b
 | .int a, .int b => a == b
 | .str a, .str b => decide (a = b)
 | .tup a, .tup b => D.beqL a b
 | .loc a, .loc b => a == b
 | _, _ => false
noncomputable def D.beqL : List D → List D → Bool
 | [], [] => true
 | a :: r, b :: t => D.beq a b && D.beqL r t
 | _, _ => false
end
mutual
theorem D.beq_eq : ∀ {a b : D}, D.beq a b = true → a = b
 | .non, b, h => by cases b <;> first | rfl | simp [D.beq] at h
 | .bl x, b, h => by cases b <;> simp [D.beq] at h; rw [h]
 | .int x, b, h => by cases b <;> simp [D.beq] at h; rw [h]
 | .str x, b, h => by cases b <;> simp [D.beq] at h; rw [h]
 | .loc x, b, h => by cases b <;> simp [D.beq] at h; rw [h]
 | .tup x, b, h => by
  cases b with
  | tup y =>
   have e : x = y := D.beqL_eq (by simpa [D.beq] using h)
   rw [e]
  | _ => simp [D.beq] at h
theorem D.beqL_eq : ∀ {a b : List D}, D.beqL a b = true → a = b
 | [], [], _ => rfl
 | [], _ :: _, h => by simp [D.beqL] at h
 | _ :: _, [], h => by simp [D.beqL] at h
 | x :: r, y :: t, h => by
  simp only [D.beqL, Bool.and_eq_true] at h
  rw [D.beq_eq h.1, D.beqL_eq h.2]
end
mutual
theorem D.beq_refl : ∀ a : D, D.beq a a = true
 | .non => rfl
 | .bl x => by simp [D.beq]
 | .int x => by simp [D.beq]
 | .str x => by simp [D.beq]
 | .loc x => by simp [D.beq]
 | .tup x => by simp only [D.beq]; exact D.beqL_refl x
theorem D.beqL_refl : ∀ a : List D, D.beqL a a = true
 | [] => rfl
 | x :: r => by simp only [D.beqL, Bool.and_eq_true]; exact ⟨D.beq_refl x, D.beqL_refl r⟩
end
instance : DecidableEq D := fun a b => decidable_of_iff (D.beq a b = true) ⟨D.beq_eq, fun h => h ▸ D.beq_refl a⟩
inductive Cell where
 | lst (ds : List D)
 | frz (ds : List D)
 | dct (kvs : List (D × D))
 | dcn (kvs : List (D × D))
 | dcf (kvs : List (D × D))
 | fnc (i : Nat)
 | ins (c : Nat) (fs : List (Str × D))
 | exn (c : Nat)
 deriving Inhabited
abbrev Sto := List Cell
abbrev Env := List (Option D)
inductive Res (α : Type) where
 | ok (a : α) (st : Sto)
 | exc (c : Nat) (st : Sto)
 | bad
def Res.bind {α β : Type} (r : Res α) (f : α → Sto → Res β) : Res β := match r with
 | .ok a st => f a st
 | .exc c st => .exc c st
 | .bad => .bad
@[simp] theorem bind_ok {α β : Type} (a : α) (st : Sto) (f : α → Sto → Res β) : (Res.ok a st).bind f = f a st := rfl
@[simp] theorem bind_exc {α β : Type} (c : Nat) (st : Sto) (f : α → Sto → Res β) : (Res.exc c st : Res α).bind f = .exc c st := rfl
@[simp] theorem bind_bad {α β : Type} (f : α → Sto → Res β) : (Res.bad : Res α).bind f = .bad := rfl
inductive Ty where
 | b (x : String) | o (n : Nat)
 deriving DecidableEq
noncomputable def cellTy : Cell → Option Ty
 | .lst _ => some (.b "list")
 | .frz _ => some (.b "list")
 | .dct _ => some (.b "dict")
 | .dcn _ => some (.b "dict")
 | .dcf _ => some (.b "dict")
 | .fnc _ => none
 | .ins _ _ => none
 | .exn c => some (.o c)
noncomputable def tyOf (st : Sto) : D → Option Ty
 | .non => some (.b "NoneType")
 | .bl _ => some (.b "bool")
 | .int _ => some (.b "int")
 | .str _ => some (.b "str")
 | .tup _ => some (.b "tuple")
 | .loc n => (st[n]?).bind cellTy
noncomputable def lstOf (st : Sto) (n : Nat) : Option (List D) := match st[n]? with
 | some (.lst ds) => some ds
 | some (.frz ds) => some ds
 | _ => none
noncomputable def seqOf (st : Sto) : D → Option (List D)
 | .tup ds => some ds
 | .loc n => lstOf st n
 | _ => none
noncomputable def truth (st : Sto) : D → Option Bool
 | .non => some false
 | .bl b => some b
 | .int i => some (i != 0)
 | .str x => if x.length ≤ sizeLine then some ((x.length : Int) != 0) else none
 | .tup ds => some (!ds.isEmpty)
 | .loc n => (lstOf st n).map fun ds => !ds.isEmpty
def optAll {α : Type} : List (Option α) → Option (List α)
 | [] => some []
 | some a :: r => (optAll r).map (a :: ·)
 | none :: _ => none
noncomputable def pyOf (st : Sto) : Nat → D → Option PyData
 | _, .non => some .none
 | _, .bl b => some (.bool b)
 | _, .int i => some (.int i)
 | _, .str x => if PyData.canLay0 (.str x) = true then some (.str x) else none
 | 0, _ => none
 | n + 1, .tup ds => (optAll (ds.map (pyOf st n))).map .tuple
 | n + 1, .loc m => (lstOf st m).bind fun ds => (optAll (ds.map (pyOf st n))).map .list
noncomputable def eqV (st : Sto) (a b : D) : Option Bool := match pyOf st 40 a, pyOf st 40 b with
 | some x, some y => some (PyData.eqv x y)
 | _, _ => none
inductive Op where
 | add | sub | mul | fdiv | mod | pow
inductive Cm where
 | eq | ne | lt | le | gt | ge | isN | notN | inL | notIn
inductive Bt where
 | absB | intB | lenB | listB | tupleB | minB | maxB | allB | anyB | lenSetB
 deriving DecidableEq
inductive Mt where
 | append | clear | extend | pop | get | upd | sdef | vals | rev | keysL | copyD | popk | popD | popI | upper | put1 | revI | maxd | frzD | clearN | eqM | neM
set_option genInjectivity false
mutual
inductive E where
 | var (i : Nat)
 | cst (d : D)
 | tupE (es : Es)
 | lstE (es : Es)
 | op (o : Op) (a b : E)
 | neg (a : E)
 | cm (c : Cm) (a b : E)
 | andE (a b : E)
 | orE (a b : E)
 | notE (a : E)
 | ifE (c a b : E)
 | call (f : Nat) (es : Es) (dv : List D)
 | bt (f : Bt) (es : Es)
 | ix (a b : E)
 | isi (a : E) (t : Ty)
 | dnew
 | dnewN
 | sl (k : Nat) (a : E) (es : Es)
 | chn (c1 c2 : Cm) (a b c : E)
 | fld (c : Nat) (o : E) (f : Str)
 | mk (c f : Nat) (es : Es)
 | meth (c f : Nat) (m : Str) (o : E) (es : Es)
 | callV (f : E) (es : Es)
 | mt (m : Mt) (o : E) (es : Es)
 | dcomp (n : Nat) (one : Bool) (nl : Nat) (tg : List Nat) (fv : List Nat) (it : E) (ifs : Es) (kx vx : E)
 | dcompN (n : Nat) (one : Bool) (nl : Nat) (tg : List Nat) (fv : List Nat) (it : E) (ifs : Es) (kx vx : E)
 | comp (n : Nat) (one : Bool) (nl : Nat) (tg : List Nat) (fv : List Nat) (it : E) (ifs : Es) (elt : E)
inductive Es where
 | nil
 | cons (e : E) (es : Es)
end
mutual
inductive S where
 | set (i : Nat) (e : E)
 | unp (is : List Nat) (e : E)
 | unpL (is : List Nat) (e : E)
 | par (i j : Nat) (a b : E)
 | aug (i : Nat) (o : Op) (e : E)
 | ifS (c : E) (a b : Ss)
 | whileS (c : E) (b : Ss)
 | forS (tg : List Nat) (one : Bool) (k : Bool) (it : E) (b : Ss)
 | forR (tg : List Nat) (es : Es) (b : Ss)
 | forE (i : Nat) (tg : List Nat) (one : Bool) (it : E) (b : Ss)
 | setf (c : Nat) (o : E) (f : Str) (e : E)
 | dput (d k v : E)
 | ret (e : E)
 | retN
 | ex (e : E)
 | raiseS (c : Nat)
 | tryS (b : Ss) (c : Nat) (i : Nat) (h : Ss)
 | pass
inductive Ss where
 | nil
 | cons (s : S) (r : Ss)
end
set_option genInjectivity true
noncomputable def BIG : Nat := 2 ^ 4000
def smallI (i : Int) : Prop := -(2 ^ 64) < i ∧ i < 2 ^ 64
instance (i : Int) : Decidable (smallI i) := by unfold smallI; infer_instance
def mulOk (i j : Int) : Prop := smallI i ∨ smallI j ∨ (i.natAbs < BIG ∧ j.natAbs < BIG)
instance (i j : Int) : Decidable (mulOk i j) := by unfold mulOk; infer_instance
def divOk (j : Int) : Prop := j ≠ 0 ∧ j.natAbs < BIG
instance (j : Int) : Decidable (divOk j) := by unfold divOk; infer_instance
def powOk (i j : Int) : Prop := 0 ≤ j ∧ j ≤ 1000000 ∧ i.natAbs < 2 ^ 64
instance (i j : Int) : Decidable (powOk i j) := by unfold powOk; infer_instance
noncomputable def dctOf (st : Sto) (n : Nat) : Option (List (D × D)) := match st[n]? with
 | some (.dct kvs) => some kvs
 | _ => none
noncomputable def dLook (kvs : List (D × D)) (k : D) : Option D := (kvs.find? fun p => decide (p.1 = k)).map (·.2)
noncomputable def dPut (kvs : List (D × D)) (k v : D) : List (D × D) := if (kvs.any fun p => decide (p.1 = k)) = true then kvs.map fun p => if p.1 = k then (p.1, v) else p else kvs ++ [(k, v)]
noncomputable def keyD : D → Bool
 | .str _ => true
 | .int _ => true
 | _ => false
noncomputable def okN : Nat → D → Bool
 | _, .int _ => true
 | _, .str x => PyData.canLay0 (.str x)
 | n + 1, .tup ds => ds.all (okN n)
 | _, _ => false
noncomputable def keyN : D → Bool
 | .tup ds => okN 8 (.tup ds)
 | _ => false
noncomputable def dcnOf (st : Sto) (n : Nat) : Option (List (D × D)) := match st[n]? with
 | some (.dcn kvs) => some kvs
 | _ => none
noncomputable def opD (o : Op) (a b : D) (st : Sto) : Res D := match o, a, b with
 | .add, .int i, .int j => .ok (.int (i + j)) st
 | .sub, .int i, .int j => .ok (.int (i - j)) st
 | .mul, .int i, .int j => if mulOk i j then .ok (.int (i * j)) st else .bad
 | .fdiv, .int i, .int j => if divOk j then .ok (.int (i.fdiv j)) st else .bad
 | .mod, .int i, .int j => if j ≠ 0 then .ok (.int (i.fmod j)) st else .bad
 | .pow, .int i, .int j => if powOk i j then .ok (.int (i ^ j.toNat)) st else .bad
 | .add, .str a, .str b => if a.length + b.length ≤ sizeLine then .ok (.str (a ++ b)) st else .bad
 | .add, .loc n, .loc m => match st[n]?, st[m]? with
  | some (.lst xs), some (.lst ys) => if xs.length + ys.length ≤ sizeLine then .ok (.loc st.length) (st ++ [.lst (xs ++ ys)]) else .bad
  | _, _ => .bad
 | .mul, .str z, .int k => if 1 < k ∧ k < 2 ^ 63 ∧ 0 < z.length ∧ z.length * k.toNat ≤ sizeLine then .ok (.str (repS z k.toNat)) st else .bad
 | .mul, .tup ds, .int k => if -(2 ^ 63) ≤ k ∧ k < 2 ^ 63 ∧ ds.length * k.toNat ≤ sizeLine then .ok (.tup (List.replicate k.toNat ds).flatten) st else .bad
 | .mul, .loc n, .int k => match st[n]? with
  | some (.lst xs) => if -(2 ^ 63) ≤ k ∧ k < 2 ^ 63 ∧ xs.length * k.toNat ≤ sizeLine then .ok (.loc st.length) (st ++ [.lst (List.replicate k.toNat xs).flatten]) else .bad
  | _ => .bad
 | _, _, _ => .bad
noncomputable def inS (st : Sto) (a b : D) : Option Bool := match pyOf st 40 a, pyOf st 41 b with
 | some x, some (.list ys) => some (ys.any fun y => PyData.eqv y x)
 | some x, some (.tuple ys) => some (ys.any fun y => PyData.eqv y x)
 | _, _ => none
noncomputable def inD (st : Sto) (a b : D) : Option Bool := match b with
 | .str y => match a with | .str x => some (!(Builtin.Str.occurrences y x 0 y.length 1).isEmpty) | _ => none
 | .loc n => match dctOf st n with
  | some kvs => if keyD a then some (dLook kvs a).isSome else none
  | none => match dcnOf st n with
   | some kvs => if keyN a then some (dLook kvs a).isSome else none
   | none => inS st a b
 | _ => inS st a b
noncomputable def hitsN (st : Sto) (kb : List (D × D)) : List (D × D) → Option Bool
 | [] => some true
 | (k, v) :: r => match dLook kb k with
  | none => some false
  | some y => (eqV st v y).bind fun e => (hitsN st kb r).map fun b => e && b
noncomputable def eqN (st : Sto) (a b : D) : Option Bool := match a, b with
 | .loc n, .loc m => (match dcnOf st n, dcnOf st m with
  | some ka, some kb => if ka.length = kb.length then hitsN st kb ka else some false
  | _, _ => none)
 | _, _ => none
noncomputable def cmD (c : Cm) (a b : D) (st : Sto) : Res D := match c with
 | .eq => match eqV st a b with | some x => .ok (.bl x) st | none => .bad
 | .ne => match eqV st a b with | some x => .ok (.bl (!x)) st | none => .bad
 | .lt => match a, b with | .int i, .int j => .ok (.bl (decide (i < j))) st | _, _ => .bad
 | .le => match a, b with | .int i, .int j => .ok (.bl (decide (i ≤ j))) st | _, _ => .bad
 | .gt => match a, b with | .int i, .int j => .ok (.bl (decide (j < i))) st | _, _ => .bad
 | .ge => match a, b with | .int i, .int j => .ok (.bl (decide (j ≤ i))) st | _, _ => .bad
 | .isN => match b with | .non => .ok (.bl (decide (a = .non))) st | _ => .bad
 | .notN => match b with | .non => .ok (.bl (!decide (a = .non))) st | _ => .bad
 | .inL => match inD st a b with | some x => .ok (.bl x) st | none => .bad
 | .notIn => match inD st a b with | some x => .ok (.bl (!x)) st | none => .bad
noncomputable def atD (xs : List D) (i : Int) : Option D := L2.atI xs i
noncomputable def ixS (a b : D) (st : Sto) : Res D := match b with
 | .int i => match seqOf st a with
  | some xs => match atD xs i with | some d => .ok d st | none => .bad
  | none => match a with
   | .str z => match L2.atI z.cps.toList i with
    | some c => if z.length ≤ sizeLine then .ok (.str ⟨#[c]⟩) st else .bad
    | none => .bad
   | _ => .bad
 | _ => .bad
noncomputable def ixD (a b : D) (st : Sto) : Res D := match a with
 | .loc n => match dctOf st n with
  | some kvs => if keyD b then (match dLook kvs b with | some d => .ok d st | none => .bad) else .bad
  | none => match dcnOf st n with
   | some kvs => if keyN b then (match dLook kvs b with | some d => .ok d st | none => .bad) else .bad
   | none => ixS a b st
 | _ => ixS a b st
noncomputable def slParts (k : Nat) (ds : List D) : Option (Option Int × Option Int) := match k, ds with
 | 0, [] => some (none, none)
 | 1, [.int i] => some (some i, none)
 | 2, [.int j] => some (none, some j)
 | 3, [.int i, .int j] => some (some i, some j)
 | _, _ => none
def cutD {α : Type} (xs : List α) (lo hi : Option Int) : List α := (xs.drop (HT.sIx xs.length 0 lo)).take (HT.sIx xs.length xs.length hi - HT.sIx xs.length 0 lo)
noncomputable def slD (k : Nat) (a : D) (ds : List D) (st : Sto) : Res D := match slParts k ds with
 | some (lo, hi) => match a with
  | .tup xs => .ok (.tup (cutD xs lo hi)) st
  | .loc n => match lstOf st n with
   | some xs => .ok (.loc st.length) (st ++ [.lst (cutD xs lo hi)])
   | none => .bad
  | _ => .bad
 | none => .bad
noncomputable def blsOf : List D → Option (List Bool)
 | [] => some []
 | .bl b :: r => (blsOf r).map (b :: ·)
 | _ => none
noncomputable def intsOf : List D → Option (List Int)
 | [] => some []
 | .int b :: r => (intsOf r).map (b :: ·)
 | _ => none
noncomputable def maxOr (d : Int) : List Int → Int
 | [] => d
 | a :: r => r.foldl (fun m x => if x > m then x else m) a
noncomputable def onceD (xs : List D) : List D := xs.foldl (fun acc x => if x ∈ acc then acc else acc ++ [x]) []
noncomputable def putFD (f : Str) (v : D) : List (Str × D) → List (Str × D)
 | [] => [(f, v)]
 | (g, x) :: r => if g = f then (g, v) :: r else (g, x) :: putFD f v r
noncomputable def btD (f : Bt) (ds : List D) (st : Sto) : Res D := match f with
 | .absB => (match ds with | [.int i] => .ok (.int (if i < 0 then -i else i)) st | _ => .bad)
 | .intB => (match ds with | [.int i] => .ok (.int i) st | [.bl b] => .ok (.int (if b then 1 else 0)) st | _ => .bad)
 | .lenB => (match ds with
  | [.tup xs] => .ok (.int xs.length) st
  | [.loc n] => (match lstOf st n with | some xs => .ok (.int xs.length) st | none => .bad)
  | [.str z] => if z.length ≤ sizeLine then .ok (.int z.length) st else .bad
  | _ => .bad)
 | .listB => (match ds with | [d] => (match seqOf st d with | some xs => .ok (.loc st.length) (st ++ [.lst xs]) | none => .bad) | _ => .bad)
 | .tupleB => (match ds with | [d] => (match seqOf st d with | some xs => .ok (.tup xs) st | none => .bad) | _ => .bad)
 | .minB => (match ds with | [.int i, .int j] => .ok (.int (if j < i then j else i)) st | _ => .bad)
 | .maxB => (match ds with | [.int i, .int j] => .ok (.int (if j > i then j else i)) st | _ => .bad)
 | .allB => (match ds with | [.loc n] => (match (lstOf st n).bind blsOf with | some bs => .ok (.bl (bs.all id)) st | none => .bad) | _ => .bad)
 | .lenSetB => (match ds with | [.loc n] => (match lstOf st n with | some xs => if xs.all keyD = true ∧ xs.length < 4000 then .ok (.int (onceD xs).length) st else .bad | none => .bad) | _ => .bad)
 | .anyB => (match ds with | [.loc n] => (match (lstOf st n).bind blsOf with | some bs => .ok (.bl (bs.any id)) st | none => .bad) | _ => .bad)
noncomputable def isLst (st : Sto) : D → Bool
 | .loc n => match st[n]? with | some (.lst _) => true | _ => false
 | _ => false
noncomputable def rdy (m : Mt) (st : Sto) (d : D) : Bool := match m with
 | .get => (match d with | .loc n => (dctOf st n).isSome | _ => false)
 | .upd => (match d with | .loc n => (dctOf st n).isSome | _ => false)
 | .sdef => (match d with | .loc n => (dctOf st n).isSome | _ => false)
 | .vals => (match d with | .loc n => (dctOf st n).isSome | _ => false)
 | .keysL => (match d with | .loc n => (dctOf st n).isSome | _ => false)
 | .copyD => (match d with | .loc n => (dctOf st n).isSome | _ => false)
 | .popk => (match d with | .loc n => (dctOf st n).isSome | _ => false)
 | .popD => (match d with | .loc n => (dctOf st n).isSome | _ => false)
 | .rev => (match d with | .loc n => (lstOf st n).isSome | _ => false)
 | .upper => (match d with | .str _ => true | _ => false)
 | .maxd => (match d with | .loc n => (lstOf st n).isSome | _ => false)
 | .frzD => (match d with | .loc n => (dctOf st n).isSome | _ => false)
 | .clearN => (match d with | .loc n => (dcnOf st n).isSome | _ => false)
 | .eqM => (match d with | .loc n => (dcnOf st n).isSome | _ => false)
 | .neM => (match d with | .loc n => (dcnOf st n).isSome | _ => false)
 | .put1 => (match d with | .loc n => (dctOf st n).isSome | _ => false)
 | _ => isLst st d
noncomputable def dMerge (kvs more : List (D × D)) : List (D × D) := more.foldl (fun acc kv => dPut acc kv.1 kv.2) kvs
noncomputable def mtD (m : Mt) (o : D) (ds : List D) (st : Sto) : Res D := match m with
 | .append => (match o, ds with
  | .loc n, [d] => (match st[n]? with
   | some (.lst xs) => if xs.length < sizeLine then .ok .non (st.set n (.lst (xs ++ [d]))) else .bad
   | _ => .bad)
  | _, _ => .bad)
 | .clear => (match o, ds with
  | .loc n, [] => (match st[n]? with
   | some (.lst xs) => .ok .non (st.set n (.lst []))
   | _ => .bad)
  | _, _ => .bad)
 | .get => (match o with
  | .loc n => (match dctOf st n with
   | some kvs => (match ds with
    | [k] => if keyD k then .ok ((dLook kvs k).getD .non) st else .bad
    | [k, x] => if keyD k then .ok ((dLook kvs k).getD x) st else .bad
    | _ => .bad)
   | none => .bad)
  | _ => .bad)
 | .upd => (match o, ds with
  | .loc n, [.loc m] => (match dctOf st n, dctOf st m with
   | some kvs, some more => if n ≠ m ∧ kvs.length + more.length ≤ sizeLine then .ok .non (st.set n (.dct (dMerge kvs more))) else .bad
   | _, _ => .bad)
  | _, _ => .bad)
 | .sdef => (match o, ds with
  | .loc n, [k, x] => (match dctOf st n with
   | some kvs => if keyD k = true ∧ kvs.length < sizeLine then (match dLook kvs k with | some d => .ok d st | none => .ok x (st.set n (.dct (dPut kvs k x)))) else .bad
   | none => .bad)
  | _, _ => .bad)
 | .vals => (match o, ds with
  | .loc n, [] => (match dctOf st n with
   | some kvs => .ok (.loc st.length) (st ++ [.lst (kvs.map (·.2))])
   | none => .bad)
  | _, _ => .bad)
 | .keysL => (match o, ds with
  | .loc n, [] => (match dctOf st n with
   | some kvs => .ok (.loc st.length) (st ++ [.lst (kvs.map (·.1))])
   | none => .bad)
  | _, _ => .bad)
 | .copyD => (match o, ds with
  | .loc n, [] => (match dctOf st n with
   | some kvs => .ok (.loc st.length) (st ++ [.dct kvs])
   | none => .bad)
  | _, _ => .bad)
 | .rev => (match o, ds with
  | .loc n, [] => (match lstOf st n with
   | some xs => .ok (.loc st.length) (st ++ [.lst xs.reverse])
   | none => .bad)
  | _, _ => .bad)
 | .pop => (match o, ds with
  | .loc n, [] => (match st[n]? with
   | some (.lst xs) => (match xs.getLast? with | some d => .ok d (st.set n (.lst xs.dropLast)) | none => .bad)
   | _ => .bad)
  | _, _ => .bad)
 | .upper => (match o, ds with
  | .str x, [] => if (Txt.upper x).length ≤ sizeLine then .ok (.str (Txt.upper x)) st else .bad
  | _, _ => .bad)
 | .frzD => (match o, ds with
  | .loc n, [] => (match dctOf st n with | some kvs => .ok (.loc n) (st.set n (.dcf kvs)) | none => .bad)
  | _, _ => .bad)
 | .clearN => (match o, ds with
  | .loc n, [] => (match dcnOf st n with | some _ => .ok .non (st.set n (.dcn [])) | none => .bad)
  | _, _ => .bad)
 | .eqM => (match ds with | [b] => (match eqN st o b with | some x => .ok (.bl x) st | none => .bad) | _ => .bad)
 | .neM => (match ds with | [b] => (match eqN st o b with | some x => .ok (.bl (!x)) st | none => .bad) | _ => .bad)
 | .put1 => (match o, ds with
  | .loc n, [k, x] => (match dctOf st n with
   | some kvs => if keyD k = true ∧ kvs = [] then .ok (.loc n) (st.set n (.dct [(k, x)])) else .bad
   | none => .bad)
  | _, _ => .bad)
 | .maxd => (match o, ds with
  | .loc n, [.int d] => (match (lstOf st n).bind intsOf with | some is => .ok (.int (maxOr d is)) st | none => .bad)
  | _, _ => .bad)
 | .revI => (match o, ds with
  | .loc n, [] => (match st[n]? with
   | some (.lst xs) => .ok .non (st.set n (.lst xs.reverse))
   | _ => .bad)
  | _, _ => .bad)
 | .extend => (match o, ds with
  | .loc n, [.loc m] => (match st[n]?, st[m]? with
   | some (.lst xs), some (.lst ys) => if xs.length + ys.length ≤ sizeLine then .ok .non (st.set n (.lst (xs ++ ys))) else .bad
   | _, _ => .bad)
  | _, _ => .bad)
 | .popI => (match o, ds with
  | .loc n, [.int i] => (match st[n]? with
   | some (.lst xs) => (match xs with
    | y :: r => if i = 0 then .ok y (st.set n (.lst r)) else .bad
    | [] => .bad)
   | _ => .bad)
  | _, _ => .bad)
 | _ => .bad
noncomputable def subB : String → String → Option Bool := fun t c => if t = c then some true else if t = "bool" ∧ c = "int" then some true else if c = "bool" ∨ c = "int" ∨ c = "tuple" ∨ c = "list" ∨ c = "str" ∨ c = "dict" then some false else none
noncomputable def subT (tab : Nat → Ty → Option Bool) : Ty → Ty → Option Bool
 | .b t, .b c => subB t c
 | .b _, .o _ => none
 | .o n, c => tab n c
end DD
namespace DD
open PySem
abbrev Or := Nat → List D → Sto → Res D
section
variable (tab : Nat → Ty → Option Bool) (call : Or)
noncomputable def getV (env : Env) (i : Nat) : Option D := (env[i]?).join
noncomputable def setAll : List Nat → List D → Env → Option Env
 | [], [], env => some env
 | i :: r, d :: t, env => if i < env.length then setAll r t (env.set i (some d)) else none
 | _, _, _ => none
noncomputable def store (tg : List Nat) (one : Bool) (d : D) (env : Env) : Option Env := if one then setAll tg [d] env else match d with
 | .tup ds => setAll tg ds env
 | _ => none
noncomputable def enumD (k : Nat) : List D → List D
 | [] => []
 | d :: r => .tup [.int k, d] :: enumD (k + 1) r
noncomputable def storeE (i : Nat) (tg : List Nat) (one : Bool) (d : D) (env : Env) : Option Env := match d with
 | .tup [.int k, v] => (store [i] true (.int k) env).bind fun env1 => store tg one v env1
 | _ => none
noncomputable def walkOf (k : Bool) (st : Sto) : D → Option (List D × Option Nat)
 | .tup ds => if k then some (ds, none) else none
 | .loc n => if k then none else (lstOf st n).map fun ds => (ds, some n)
 | _ => none
noncomputable def stays (st : Sto) (p : Option Nat) (ds : List D) : Bool := match p with
 | none => true
 | some n => decide (lstOf st n = some ds)
noncomputable def rngL (lo : Int) (n : Nat) : List D := (List.range n).map fun k => .int (lo + (k : Nat))
noncomputable def rngOf (ds : List D) : Option (List D) := match ds with
 | [.int j] => if -(2 ^ 62) ≤ j ∧ j < 2 ^ 62 then some (rngL 0 j.toNat) else none
 | [.int i, .int j] => if -(2 ^ 62) ≤ i ∧ i < 2 ^ 62 ∧ -(2 ^ 62) ≤ j ∧ j < 2 ^ 62 then some (rngL i (j - i).toNat) else none
 | _ => none
noncomputable def compLoop (all : List D) (p : Option Nat) (n0 : Nat) (body : D → Sto → Res (Option D)) : List D → Sto → Res Unit
  | [], st => if stays st p all then .ok () st else .bad
  | d :: r, st => if stays st p all then (match body d st with
      | .ok (some y) st' => (match st'[n0]? with
        | some (.lst ys) => if ys.length < sizeLine then compLoop all p n0 body r (st'.set n0 (.lst (ys ++ [y]))) else .bad
        | _ => .bad)
      | .ok none st' => compLoop all p n0 body r st'
      | _ => .bad)
    else .bad
noncomputable def dcompLoop (all : List D) (p : Option Nat) (n0 : Nat) (body : D → Sto → Res (Option (D × D))) : List D → Sto → Res Unit
  | [], st => if stays st p all then .ok () st else .bad
  | d :: r, st => if stays st p all then (match body d st with
      | .ok (some (k, y)) st' => (match st'[n0]? with
        | some (.dct kvs) => if kvs.length < sizeLine ∧ keyD k = true then dcompLoop all p n0 body r (st'.set n0 (.dct (dPut kvs k y))) else .bad
        | _ => .bad)
      | .ok none st' => dcompLoop all p n0 body r st'
      | _ => .bad)
    else .bad
noncomputable def dcompLoopN (all : List D) (p : Option Nat) (n0 : Nat) (body : D → Sto → Res (Option (D × D))) : List D → Sto → Res Unit
  | [], st => if stays st p all then .ok () st else .bad
  | d :: r, st => if stays st p all then (match body d st with
      | .ok (some (k, y)) st' => (match st'[n0]? with
        | some (.dcn kvs) => if kvs.length < sizeLine ∧ keyN k = true then dcompLoopN all p n0 body r (st'.set n0 (.dcn (dPut kvs k y))) else .bad
        | _ => .bad)
      | .ok none st' => dcompLoopN all p n0 body r st'
      | _ => .bad)
    else .bad
noncomputable def itOf (k : Nat) (st : Sto) (d : D) : Option (List D × Option Nat) := match k, d with
 | 0, .loc n => (lstOf st n).map fun ds => (ds, some n)
 | 1, .tup ds => some (ds, none)
 | 2, .tup ds => (rngOf ds).map fun xs => (xs, none)
 | 4, .loc n => (match st[n]? with | some (.dcf kvs) => some (kvs.map (·.1), none) | _ => none)
 | 3, .str z => if z.length ≤ sizeLine then some (z.cps.toList.map fun c => .str ⟨#[c]⟩, none) else none
 | _, _ => none
noncomputable def envIn (nl : Nat) (fv : List Nat) (env : Env) : Env := List.replicate nl none ++ fv.map (getV env)
mutual
noncomputable def evalE : E → Env → Sto → Res D
  | .var i, env, st => match getV env i with | some d => .ok d st | none => .bad
  | .cst d, _, st => .ok d st
  | .tupE es, env, st => (evalEs es env st).bind fun ds st => if ds.length ≤ sizeLine then .ok (.tup ds) st else .bad
  | .lstE es, env, st => (evalEs es env st).bind fun ds st => if ds.length ≤ sizeLine then .ok (.loc st.length) (st ++ [.lst ds]) else .bad
  | .op o a b, env, st => (evalE a env st).bind fun x st => (evalE b env st).bind fun y st => opD o x y st
  | .neg a, env, st => (evalE a env st).bind fun x st => match x with | .int i => .ok (.int (-i)) st | _ => .bad
  | .cm c a b, env, st => (evalE a env st).bind fun x st => (evalE b env st).bind fun y st => cmD c x y st
  | .andE a b, env, st => (evalE a env st).bind fun x st => match x with | .bl true => evalE b env st | .bl false => .ok (.bl false) st | _ => .bad
  | .orE a b, env, st => (evalE a env st).bind fun x st => match x with | .bl true => .ok (.bl true) st | .bl false => evalE b env st | _ => .bad
  | .notE a, env, st => (evalE a env st).bind fun x st => match x with | .bl b => .ok (.bl (!b)) st | _ => .bad
  | .ifE c a b, env, st => (evalT c env st).bind fun x st => if x then evalE a env st else evalE b env st
  | .call f es dv, env, st => (evalEs es env st).bind fun ds st => call f (ds ++ dv) st
  | .bt f es, env, st => (evalEs es env st).bind fun ds st => btD f ds st
  | .ix a b, env, st => (evalE a env st).bind fun x st => (evalE b env st).bind fun y st => ixD x y st
  | .isi a t, env, st => (evalE a env st).bind fun x st => match (tyOf st x).bind fun u => subT tab u t with | some b => .ok (.bl b) st | none => .bad
  | .dnew, _, st => .ok (.loc st.length) (st ++ [.dct []])
  | .dnewN, _, st => .ok (.loc st.length) (st ++ [.dcn []])
  | .sl k a es, env, st => (evalE a env st).bind fun x st => (evalIs es env st).bind fun ds st => slD k x ds st
  | .chn c1 c2 a b c, env, st => (evalE a env st).bind fun x st => (evalE b env st).bind fun y st => (cmD c1 x y st).bind fun z st => match z with | .bl true => (evalE c env st).bind fun w st => cmD c2 y w st | .bl false => .ok (.bl false) st | _ => .bad
  | .fld c o f, env, st => (evalE o env st).bind fun x st => match x with
      | .loc n => match st[n]? with | some (.ins c' fs) => (match fs.lookup f with | some d => if c' = c then .ok d st else .bad | none => .bad) | _ => .bad
      | _ => .bad
  | .mk c f es, env, st => (evalEs es env st).bind fun ds st => (call f (.loc st.length :: ds) (st ++ [.ins c []])).bind fun r st' => match r with | .non => .ok (.loc st.length) st' | _ => .bad
  | .meth c f m o es, env, st => (evalE o env st).bind fun x st => match x with
      | .loc n => match st[n]? with | some (.ins c' fs) => if c' = c ∧ fs.lookup m = none then (evalEs es env st).bind fun ds st => call f (.loc n :: ds) st else .bad | _ => .bad
      | _ => .bad
  | .callV f es, env, st => (evalE f env st).bind fun x st => match x with
      | .loc n => match st[n]? with | some (.fnc i) => (evalEs es env st).bind fun ds st => call i ds st | _ => .bad
      | _ => .bad
  | .mt m o es, env, st => (evalE o env st).bind fun x st => if rdy m st x then (evalEs es env st).bind fun ds st => mtD m x ds st else .bad
  | .dcomp n one nl tg fv it ifs kx vx, env, st => (evalE it env st).bind fun d st => match itOf n st d with
      | some (xs, p) => (dcompLoop xs p st.length (fun d st => match store tg one d (envIn nl fv env) with
          | some env' => (evalIfs ifs env' st).bind fun b st => if b then (evalE kx env' st).bind fun k st => (evalE vx env' st).bind fun y st => .ok (some (k, y)) st else .ok none st
          | none => .bad) xs (st ++ [.dct []])).bind fun _ st' => .ok (.loc st.length) st'
      | none => .bad
  | .dcompN n one nl tg fv it ifs kx vx, env, st => (evalE it env st).bind fun d st => match itOf n st d with
      | some (xs, p) => (dcompLoopN xs p st.length (fun d st => match store tg one d (envIn nl fv env) with
          | some env' => (evalIfs ifs env' st).bind fun b st => if b then (evalE kx env' st).bind fun k st => (evalE vx env' st).bind fun y st => .ok (some (k, y)) st else .ok none st
          | none => .bad) xs (st ++ [.dcn []])).bind fun _ st' => .ok (.loc st.length) st'
      | none => .bad
  | .comp n one nl tg fv it ifs elt, env, st => (evalE it env st).bind fun d st => match itOf n st d with
      | some (xs, p) => (compLoop xs p st.length (fun d st => match store tg one d (envIn nl fv env) with
          | some env' => (evalIfs ifs env' st).bind fun b st => if b then (evalE elt env' st).bind fun y st => .ok (some y) st else .ok none st
          | none => .bad) xs (st ++ [.lst []])).bind fun _ st' => .ok (.loc st.length) st'
      | none => .bad
noncomputable def evalIfs : Es → Env → Sto → Res Bool
 | .nil, _, st => .ok true st
 | .cons c r, env, st => (evalT c env st).bind fun b st => if b then evalIfs r env st else .ok false st
noncomputable def evalIs : Es → Env → Sto → Res (List D)
 | .nil, _, st => .ok [] st
 | .cons e es, env, st => (evalE e env st).bind fun d st => match d with | .int _ => (evalIs es env st).bind fun ds st => .ok (d :: ds) st | _ => .bad
noncomputable def evalEs : Es → Env → Sto → Res (List D)
 | .nil, _, st => .ok [] st
 | .cons e es, env, st => (evalE e env st).bind fun d st => (evalEs es env st).bind fun ds st => .ok (d :: ds) st
noncomputable def evalT : E → Env → Sto → Res Bool
 | .andE a b, env, st => (evalT a env st).bind fun x st => if x then evalT b env st else .ok false st
 | .orE a b, env, st => (evalT a env st).bind fun x st => if x then .ok true st else evalT b env st
 | .notE a, env, st => (evalT a env st).bind fun x st => .ok (!x) st
 | .var i, env, st => match getV env i with | some d => (match truth st d with | some b => .ok b st | none => .bad) | none => .bad
 | .cst d, env, st => match truth st d with | some b => .ok b st | none => .bad
 | .cm c a b, env, st => (evalE a env st).bind fun x st => (evalE b env st).bind fun y st => (cmD c x y st).bind fun d st => match d with | .bl b => .ok b st | _ => .bad
 | .call f es dv, env, st => (evalEs es env st).bind fun ds st => (call f (ds ++ dv) st).bind fun d st => match truth st d with | some b => .ok b st | none => .bad
 | .bt f es, env, st => (evalEs es env st).bind fun ds st => (btD f ds st).bind fun d st => match truth st d with | some b => .ok b st | none => .bad
 | .ix a b, env, st => (evalE a env st).bind fun x st => (evalE b env st).bind fun y st => (ixD x y st).bind fun d st => match truth st d with | some b => .ok b st | none => .bad
 | .mt m o es, env, st => (evalE o env st).bind fun x st => if rdy m st x then (evalEs es env st).bind fun ds st => (mtD m x ds st).bind fun d st => match truth st d with | some b => .ok b st | none => .bad else .bad
 | .isi a t, env, st => (evalE a env st).bind fun x st => match (tyOf st x).bind fun u => subT tab u t with | some b => .ok b st | none => .bad
 | .chn c1 c2 a b c, env, st => (evalE a env st).bind fun x st => (evalE b env st).bind fun y st => (cmD c1 x y st).bind fun z st => match z with | .bl true => (evalE c env st).bind fun w st => (cmD c2 y w st).bind fun d st => (match d with | .bl b => .ok b st | _ => .bad) | .bl false => .ok false st | _ => .bad
 | _, _, _ => .bad
end
inductive Fl where
 | next (env : Env) | ret (d : D) | brk (env : Env) | cont (env : Env)
noncomputable def forLoop (all : List D) (p : Option Nat) (body : D → Env → Sto → Res Fl) : List D → Env → Sto → Res Fl
  | [], env, st => if stays st p all then .ok (.next env) st else .bad
  | d :: r, env, st => if stays st p all then (body d env st).bind fun f st' => match f with
      | .next env' => forLoop all p body r env' st'
      | .cont env' => forLoop all p body r env' st'
      | .brk env' => .ok (.next env') st'
      | .ret x => .ok (.ret x) st'
    else .bad
noncomputable def whileLoop (test : Env → Sto → Res Bool) (body : Env → Sto → Res Fl) : Nat → Env → Sto → Res Fl
  | 0, _, _ => .bad
  | F + 1, env, st => (test env st).bind fun b st => if b then (body env st).bind fun f st' => match f with
      | .next env' => whileLoop test body F env' st'
      | .cont env' => whileLoop test body F env' st'
      | .brk env' => .ok (.next env') st'
      | .ret x => .ok (.ret x) st'
    else .ok (.next env) st
noncomputable def blank (env : Env) (i : Nat) (d : D) : Env := (List.replicate env.length none).set i (some d)
mutual
noncomputable def execS (F : Nat) : S → Env → Sto → Res Fl
  | .pass, env, st => .ok (.next env) st
  | .set i e, env, st => (evalE tab call e env st).bind fun d st => if i < env.length then .ok (.next (env.set i (some d))) st else .bad
  | .unp is e, env, st => (evalE tab call e env st).bind fun d st => match store is false d env with | some env' => .ok (.next env') st | none => .bad
  | .unpL is e, env, st => (evalE tab call e env st).bind fun d st => match d with
      | .loc n => match lstOf st n with | some ds => (match setAll is ds env with | some env' => .ok (.next env') st | none => .bad) | none => .bad
      | _ => .bad
  | .par i j a b, env, st => (evalE tab call a env st).bind fun x st => (evalE tab call b env st).bind fun y st => if i < env.length ∧ j < env.length then .ok (.next ((env.set i (some x)).set j (some y))) st else .bad
  | .aug i o e, env, st => match getV env i with
      | some (.int x) => (evalE tab call e env st).bind fun y st => match y with
        | .int j => (opD o (.int x) (.int j) st).bind fun z st => if i < env.length then .ok (.next (env.set i (some z))) st else .bad
        | _ => .bad
      | _ => .bad
  | .setf c o f e, env, st => (evalE tab call e env st).bind fun y st => (evalE tab call o env st).bind fun x st => match x with
      | .loc n => match st[n]? with | some (.ins c' fs) => if fs.length < 900 ∧ c' = c then .ok (.next env) (st.set n (.ins c (putFD f y fs))) else .bad | _ => .bad
      | _ => .bad
  | .dput d k v, env, st => (evalE tab call v env st).bind fun y st => (evalE tab call d env st).bind fun x st => (evalE tab call k env st).bind fun kk st => match x with
      | .loc n => match dctOf st n with
        | some kvs => if keyD kk = true ∧ kvs.length < sizeLine then .ok (.next env) (st.set n (.dct (dPut kvs kk y))) else .bad
        | none => match dcnOf st n with
          | some kvs => if keyN kk = true ∧ kvs.length < sizeLine then .ok (.next env) (st.set n (.dcn (dPut kvs kk y))) else .bad
          | none => match st[n]?, kk with
            | some (.lst xs), .int i => if 0 ≤ i ∧ i < xs.length then .ok (.next env) (st.set n (.lst (xs.set i.toNat y))) else .bad
            | _, _ => .bad
      | _ => .bad
  | .ifS c a b, env, st => (evalT tab call c env st).bind fun x st => if x then execSs F a env st else execSs F b env st
  | .whileS c b, env, st => whileLoop (evalT tab call c) (execSs F b) F env st
  | .forR tg es b, env, st => (evalEs tab call es env st).bind fun ds st => match rngOf ds with
      | some xs => forLoop xs none (fun d env st => match store tg true d env with | some env' => execSs F b env' st | none => .bad) xs env st
      | none => .bad
  | .forS tg one k it b, env, st => (evalE tab call it env st).bind fun d st => match walkOf k st d with
      | some (xs, p) => forLoop xs p (fun d env st => match store tg one d env with | some env' => execSs F b env' st | none => .bad) xs env st
      | none => .bad
  | .forE i tg one it b, env, st => (evalE tab call it env st).bind fun d st => match walkOf false st d with
      | some (xs, p) => forLoop xs p (fun d env st => match storeE i tg one d env with | some env' => execSs F b env' st | none => .bad) (enumD 0 xs) env st
      | none => .bad
  | .ret e, env, st => (evalE tab call e env st).bind fun d st => .ok (.ret d) st
  | .retN, _, st => .ok (.ret .non) st
  | .ex e, env, st => (evalE tab call e env st).bind fun _ st => .ok (.next env) st
  | .raiseS c, _, st => .exc c st
  | .tryS b c i h, env, st => match execSs F b env st with
      | .exc k st' => match tab k (.o c) with
        | some true => if i < env.length then (match execSs F h (blank env i (.loc st'.length)) (st' ++ [.exn k]) with
            | .ok (.next env2) st'' => .ok (.next (env2.set i none)) st''
            | .ok (.ret d) st'' => .ok (.ret d) st''
            | _ => .bad)
          else .bad
        | _ => .bad
      | r => r
noncomputable def execSs (F : Nat) : Ss → Env → Sto → Res Fl
  | .nil, env, st => .ok (.next env) st
  | .cons s r, env, st => (execS F s env st).bind fun f st => match f with
      | .next env' => execSs F r env' st
      | f => .ok f st
end
end
structure Fn where
 np : Nat
 nl : Nat
 body : Ss
noncomputable def fin (r : Res Fl) : Res D := r.bind fun f st => match f with
 | .next _ => .ok .non st
 | .ret d => .ok d st
 | _ => .bad
noncomputable def callD (tab : Nat → Ty → Option Bool) (fns : List Fn) (F : Nat) : Nat → Or
 | 0 => fun _ _ _ => .bad
 | n + 1 => fun f args st => match fns[f]? with
  | some fn => if args.length = fn.np ∧ fn.np ≤ fn.nl then fin (execSs tab (callD tab fns F n) F fn.body (args.map some ++ List.replicate (fn.nl - fn.np) none) st) else .bad
  | none => .bad
end DD
namespace DD
open PySem L2
structure CW where
 w : World
 f : Nat → Addr
instance : CoeFun CW (fun _ => Nat → Addr) := ⟨CW.f⟩
section
variable (K : PySem.W.Frag)
mutual
def Rep (rho : List Addr) (H : Hp) : D → V → Prop
 | .non, v => v = .non
 | .bl b, v => v = .bl b
 | .int i, v => v = .int i
 | .str x, v => v = .str x
 | .tup ds, v => ∃ a vs, v = .ref a ∧ SqT K H a vs ∧ RepL rho H ds vs
 | .loc n, v => ∃ a, rho[n]? = some a ∧ v = .ref a
def RepL (rho : List Addr) (H : Hp) : List D → List V → Prop
 | [], vs => vs = []
 | d :: r, vs => ∃ v t, vs = v :: t ∧ Rep rho H d v ∧ RepL rho H r t
end
structure Keep (rho : List Addr) (H : Hp) (rho' : List Addr) (H' : Hp) : Prop where
 ext : ∃ m, rho' = rho ++ m
 tup : ∀ a xs, SqT K H a xs → SqT K H' a xs
 fz : ∀ a o ws, H a = some (.frz o (.dK ws)) → H' a = some (.frz o (.dK ws))
variable {K}
theorem Keep.refl (rho : List Addr) (H : Hp) : Keep K rho H rho H := ⟨⟨[], by simp⟩, fun _ _ h => h, fun _ _ _ h => h⟩
theorem Keep.trans {r1 r2 r3 : List Addr} {H1 H2 H3 : Hp} (a : Keep K r1 H1 r2 H2) (b : Keep K r2 H2 r3 H3) : Keep K r1 H1 r3 H3 := by
 obtain ⟨⟨m, rfl⟩, p, p2⟩ := a
 obtain ⟨⟨k, rfl⟩, q, q2⟩ := b
 exact ⟨⟨m ++ k, by simp⟩, fun a xs h => q a xs (p a xs h), fun a o ws h => q2 a o ws (p2 a o ws h)⟩
theorem Keep.at {r1 r2 : List Addr} {H1 H2 : Hp} (k : Keep K r1 H1 r2 H2) {n : Nat} {a : Addr} (h : r1[n]? = some a) : r2[n]? = some a := by
 obtain ⟨⟨m, rfl⟩, _⟩ := k
 have : n < r1.length := (List.getElem?_eq_some_iff.mp h).1
 rw [List.getElem?_append_left this]; exact h
mutual
theorem Rep.mono {r1 r2 : List Addr} {H1 H2 : Hp} (k : Keep K r1 H1 r2 H2) : ∀ {d : D} {v : V}, Rep K r1 H1 d v → Rep K r2 H2 d v
 | .non, v, h => by simpa [Rep] using h
 | .bl b, v, h => by simpa [Rep] using h
 | .int b, v, h => by simpa [Rep] using h
 | .str b, v, h => by simpa [Rep] using h
 | .tup ds, v, h => by
  simp only [Rep] at h ⊢
  obtain ⟨a, vs, e, q, r⟩ := h
  exact ⟨a, vs, e, k.tup a vs q, RepL.mono k r⟩
 | .loc n, v, h => by
  simp only [Rep] at h ⊢
  obtain ⟨a, e, q⟩ := h
  exact ⟨a, k.at e, q⟩
theorem RepL.mono {r1 r2 : List Addr} {H1 H2 : Hp} (k : Keep K r1 H1 r2 H2) : ∀ {d : List D} {v : List V}, RepL K r1 H1 d v → RepL K r2 H2 d v
 | [], v, h => by simpa [RepL] using h
 | x :: r, v, h => by
  simp only [RepL] at h ⊢
  obtain ⟨y, t, e, p, q⟩ := h
  exact ⟨y, t, e, Rep.mono k p, RepL.mono k q⟩
end
theorem RepL.length {r : List Addr} {H : Hp} : ∀ {ds : List D} {vs : List V}, RepL K r H ds vs → ds.length = vs.length
 | [], vs, h => by simp only [RepL] at h; subst h; rfl
 | x :: t, vs, h => by
  simp only [RepL] at h
  obtain ⟨y, u, rfl, _, q⟩ := h
  simp [RepL.length q]
theorem RepL.get {r : List Addr} {H : Hp} : ∀ {ds : List D} {vs : List V} {i : Nat} {d : D}, RepL K r H ds vs → ds[i]? = some d → ∃ v, vs[i]? = some v ∧ Rep K r H d v
 | [], vs, i, d, h, e => by simp at e
 | x :: t, vs, 0, d, h, e => by
  simp only [RepL] at h
  obtain ⟨y, u, rfl, p, q⟩ := h
  simp at e; subst e
  exact ⟨y, rfl, p⟩
 | x :: t, vs, i + 1, d, h, e => by
  simp only [RepL] at h
  obtain ⟨y, u, rfl, p, q⟩ := h
  simp at e
  obtain ⟨v, e1, e2⟩ := RepL.get q e
  exact ⟨v, by simpa using e1, e2⟩
theorem RepL.append {r : List Addr} {H : Hp} : ∀ {ds es : List D} {vs us : List V}, RepL K r H ds vs → RepL K r H es us → RepL K r H (ds ++ es) (vs ++ us)
 | [], es, vs, us, h, g => by simp only [RepL] at h; subst h; simpa using g
 | x :: t, es, vs, us, h, g => by
  simp only [RepL] at h
  obtain ⟨y, u, rfl, p, q⟩ := h
  show RepL K r H (x :: (t ++ es)) (y :: (u ++ us))
  simp only [RepL]
  exact ⟨y, u ++ us, rfl, p, RepL.append q g⟩
theorem RepL.rep {r : List Addr} {H : Hp} {ds : List D} {vs : List V} (h : RepL K r H ds vs) : ∀ k : Nat, RepL K r H (List.replicate k ds).flatten (List.replicate k vs).flatten
 | 0 => by simp [RepL]
 | k + 1 => by
  rw [List.replicate_succ, List.replicate_succ, List.flatten_cons, List.flatten_cons]
  exact h.append (RepL.rep h k)
theorem Same.keep {H H' : Hp} (s : Same H H') (rho : List Addr) : Keep K rho H rho H' := ⟨⟨[], by simp⟩, fun a xs h => by
 rcases h with h | h
 · rcases h with h | ⟨o, h⟩
   · exact .inl (.inl (s _ _ h))
   · exact .inl (.inr ⟨o, s _ _ h⟩)
 · exact .inr h, fun a o ws h => s _ _ h⟩
theorem same_upd {H : Hp} {p : Addr} (h : H p = none) (o : HO) : Same H (upd H p o) := fun b u q => by rw [upd_ne (ne_of_none q h)]; exact q
variable (K) (cls : CW)
def ExcIs (a : Addr) (c : Value) : Heap → Prop := fun h => ∃ o vs, h.get? a = some o ∧ o.cls = c ∧ o.data = .fields vs
def FsRep (rho : List Addr) (H : Hp) (fs : List (Str × D)) (ws : List (Str × V)) : Prop := ∀ f, match fs.lookup f, ws.lookup f with
 | some d, some v => Rep K rho H d v
 | none, none => True
 | _, _ => False
noncomputable def kD : D → Option Key
 | .int i => some (.inl i)
 | .str x => some (.inr x)
 | _ => none
def KvRep (rho : List Addr) (H : Hp) : List (D × D) → List (Key × V) → Prop
 | [], ws => ws = []
 | (k, d) :: r, ws => ∃ k' v t, ws = (k', v) :: t ∧ kD k = some k' ∧ Rep K rho H d v ∧ KvRep rho H r t
noncomputable def hashD (w : World) : Nat → D → Int
 | _, .int i => hashInt i
 | _, .str x => hashStr w x
 | n + 1, .tup ds => reduceHash (Builtin.Tuple.tupleHashOf (ds.map (hashD w n)))
 | _, _ => 0
def NDict (w : World) (a : Addr) (xs : List (D × Addr × V)) : Heap → Prop := fun h => (a == sysModules) = false ∧ xs.length ≤ sizeLine ∧ (xs.map (·.1)).Nodup ∧ ∃ o es ep, h.get? a = some o ∧ o.ExactDict ∧ o.data = .dict es ep ∧
 Paired (fun (x : D × Addr × V) (e : DictEntry) => e.hash = hashD w 8 x.1 ∧ e.key = .ref x.2.1 ∧ RelV x.2.2 e.val) xs es.toList
def NvRep (rho : List Addr) (H : Hp) : List (D × D) → List (D × Addr × V) → Prop
 | [], ws => ws = []
 | (k, d) :: r, ws => ∃ b v t, ws = (k, b, v) :: t ∧ keyN k = true ∧ Rep K rho H k (.ref b) ∧ Rep K rho H d v ∧ NvRep rho H r t
def FrzAt (H : Hp) (a : Addr) (xs : List V) : Prop := (∃ o, H a = some (.frz o (.lst xs))) ∨
    ∃ (o : Obj) (its : Array Value) (n : Nat), K.lookup a = some o ∧ o.cls = .type "list" ∧ o.dict = none ∧ o.data = .seq its n ∧ its.size ≤ sizeLine ∧ Vals xs its.toList
noncomputable def trk : Cell → Bool
 | .frz _ => false
 | _ => true
def CellRep (rho : List Addr) (H : Hp) (a : Addr) : Cell → Prop
 | .lst ds => ∃ vs, H a = some (.lst vs) ∧ RepL K rho H ds vs
 | .frz ds => ∃ vs, FrzAt K H a vs ∧ RepL K rho H ds vs
 | .dct kvs => ∃ ws, H a = some (.dK ws) ∧ KvRep K rho H kvs ws
 | .dcn kvs => ∃ xs, H a = some (.ext (NDict cls.w a xs)) ∧ NvRep K rho H kvs xs
 | .dcf kvs => ∃ ws o, H a = some (.frz o (.dK ws)) ∧ KvRep K rho H kvs ws
 | .fnc _ => False
 | .ins c fs => ∃ dx ws, H a = some (.ins (cls c) dx ws) ∧ ws.length = fs.length ∧ FsRep K rho H fs ws
 | .exn c => H a = some (.ext (ExcIs a (.ref (cls c))))
structure StoRep (rho : List Addr) (st : Sto) (H : Hp) : Prop where
 len : rho.length = st.length
 nd : ∀ (n m : Nat) (a : Addr) (c d : Cell), rho[n]? = some a → rho[m]? = some a → st[n]? = some c → st[m]? = some d → trk c = true → trk d = true → n = m
 cells : ∀ (n : Nat) (a : Addr) (c : Cell), rho[n]? = some a → st[n]? = some c → CellRep K cls rho H a c
structure EnvRep (rho : List Addr) (H : Hp) (env : Env) (sg : St) : Prop where
 len : env.length = sg.length
 val : ∀ (i : Nat) (d : D), env[i]? = some (some d) → ∃ v, sg[i]? = some (some v) ∧ Rep K rho H d v
variable {K cls}
theorem FsRep.mono {r1 r2 : List Addr} {H1 H2 : Hp} (k : Keep K r1 H1 r2 H2) {fs : List (Str × D)} {ws : List (Str × V)} (h : FsRep K r1 H1 fs ws) : FsRep K r2 H2 fs ws := fun f => by
 have q := h f
 revert q
 cases fs.lookup f <;> cases ws.lookup f <;> intro q <;> first | trivial | exact q.elim | exact Rep.mono k q
theorem KvRep.mono {r1 r2 : List Addr} {H1 H2 : Hp} (k : Keep K r1 H1 r2 H2) : ∀ {kvs : List (D × D)} {ws : List (Key × V)}, KvRep K r1 H1 kvs ws → KvRep K r2 H2 kvs ws
 | [], ws, h => by simpa [KvRep] using h
 | (x, d) :: r, ws, h => by
  simp only [KvRep] at h ⊢
  obtain ⟨k', v, t, e, p, q, w⟩ := h
  exact ⟨k', v, t, e, p, Rep.mono k q, KvRep.mono k w⟩
theorem NvRep.mono {r1 r2 : List Addr} {H1 H2 : Hp} (k : Keep K r1 H1 r2 H2) : ∀ {kvs : List (D × D)} {ws : List (D × Addr × V)}, NvRep K r1 H1 kvs ws → NvRep K r2 H2 kvs ws
 | [], ws, h => by simpa [NvRep] using h
 | (x, d) :: r, ws, h => by
  simp only [NvRep] at h ⊢
  obtain ⟨b, v, t, e, p, q, u, w⟩ := h
  exact ⟨b, v, t, e, p, Rep.mono k q, Rep.mono k u, NvRep.mono k w⟩
theorem CellRep.stay {r1 r2 : List Addr} {H1 H2 : Hp} (k : Keep K r1 H1 r2 H2) {a : Addr} {c : Cell} (h : CellRep K cls r1 H1 a c) (e : ∀ o, H1 a = some o → H2 a = some o) : CellRep K cls r2 H2 a c := by
 cases c with
 | lst ds => obtain ⟨vs, p, q⟩ := h; exact ⟨vs, e _ p, q.mono k⟩
 | frz ds =>
  obtain ⟨vs, p, q⟩ := h
  refine ⟨vs, ?_, q.mono k⟩
  rcases p with ⟨o, p⟩ | p
  · exact .inl ⟨o, e _ p⟩
  · exact .inr p
 | dct kvs => obtain ⟨ws, p, q⟩ := h; exact ⟨ws, e _ p, q.mono k⟩
 | dcn kvs => obtain ⟨ws, p, q⟩ := h; exact ⟨ws, e _ p, q.mono k⟩
 | dcf kvs => obtain ⟨ws, o, p, q⟩ := h; exact ⟨ws, o, e _ p, q.mono k⟩
 | fnc i => exact h.elim
 | ins c fs => obtain ⟨dx, ws, p, l, q⟩ := h; exact ⟨dx, ws, e _ p, l, q.mono k⟩
 | exn c => exact e _ h
theorem CellRep.some {r : List Addr} {H : Hp} {a : Addr} {c : Cell} (h : CellRep K cls r H a c) (t : trk c = true) : ∃ o, H a = some o := by
 cases c with
 | lst ds => obtain ⟨vs, p, q⟩ := h; exact ⟨_, p⟩
 | frz ds => cases t
 | dct kvs => obtain ⟨ws, p, q⟩ := h; exact ⟨_, p⟩
 | dcn kvs => obtain ⟨ws, p, q⟩ := h; exact ⟨_, p⟩
 | dcf kvs => obtain ⟨ws, o, p, q⟩ := h; exact ⟨_, p⟩
 | fnc i => exact h.elim
 | ins c fs => obtain ⟨dx, ws, p, q⟩ := h; exact ⟨_, p⟩
 | exn c => exact ⟨_, h⟩
theorem StoRep.same {rho : List Addr} {st : Sto} {H H' : Hp} (s : StoRep K cls rho st H) (e : Same H H') : StoRep K cls rho st H' :=
 ⟨s.len, s.nd, fun n a c p q => (s.cells n a c p q).stay (Same.keep e rho) (fun o h => e _ _ h)⟩
theorem EnvRep.mono {r1 r2 : List Addr} {H1 H2 : Hp} (k : Keep K r1 H1 r2 H2) {env : Env} {sg : St} (h : EnvRep K r1 H1 env sg) : EnvRep K r2 H2 env sg :=
 ⟨h.len, fun i d e => let ⟨v, p, q⟩ := h.val i d e; ⟨v, p, q.mono k⟩⟩
theorem EnvRep.set {rho : List Addr} {H : Hp} {env : Env} {sg : St} (h : EnvRep K rho H env sg) (i : Nat) {d : D} {v : V} (r : Rep K rho H d v) : EnvRep K rho H (env.set i (some d)) (sg.set i (some v)) := by
 refine ⟨by simp [h.len], fun j x e => ?_⟩
 rw [List.getElem?_set] at e ⊢
 have hl := h.len
 by_cases ij : i = j
 · subst ij
   rw [if_pos rfl] at e ⊢
   by_cases hi : i < env.length
   · rw [if_pos hi] at e
     rw [if_pos (by omega)]
     cases e
     exact ⟨v, rfl, r⟩
   · rw [if_neg hi] at e; cases e
 · rw [if_neg ij] at e ⊢
   exact h.val j x e
theorem StoRep.laid {rho : List Addr} {st : Sto} {H : Hp} (s : StoRep K cls rho st H) {p : Addr} {o : HO} {c : Cell} (hp : H p = none) (hc : CellRep K cls (rho ++ [p]) (upd H p o) p c) :
    Keep K rho H (rho ++ [p]) (upd H p o) ∧ StoRep K cls (rho ++ [p]) (st ++ [c]) (upd H p o) := by
  have e := same_upd hp o
  have k : Keep K rho H (rho ++ [p]) (upd H p o) := ⟨⟨[p], rfl⟩, (Same.keep e rho).tup, (Same.keep (K := K) e rho).fz⟩
  have old : ∀ (n : Nat) (x : Cell), rho[n]? = some p → st[n]? = some x → trk x = true → False := fun n x h1 h2 ht => by
    obtain ⟨u, hu⟩ := (s.cells n p x h1 h2).some ht
    rw [hp] at hu; cases hu
  have at_lt : ∀ (n : Nat) (a : Addr) (x : Cell), (rho ++ [p])[n]? = some a → (st ++ [c])[n]? = some x → (n < rho.length ∧ rho[n]? = some a ∧ st[n]? = some x) ∨ (n = rho.length ∧ a = p ∧ x = c) := fun n a x h1 h2 => by
    by_cases hn : n < rho.length
    · rw [List.getElem?_append_left hn] at h1
      rw [List.getElem?_append_left (by rw [← s.len]; exact hn)] at h2
      exact .inl ⟨hn, h1, h2⟩
    · have hn' : n = rho.length := by
        have := (List.getElem?_eq_some_iff.mp h1).1
        simp at this; omega
      subst hn'
      rw [List.getElem?_append_right (Nat.le_refl _)] at h1
      rw [s.len, List.getElem?_append_right (Nat.le_refl _)] at h2
      simp at h1 h2
      exact .inr ⟨rfl, h1.symm, h2.symm⟩
  refine ⟨k, by simp [s.len], fun n m a x y h1 h2 h3 h4 t1 t2 => ?_, fun n a x h1 h2 => ?_⟩
  · rcases at_lt n a x h1 h3 with ⟨_, g1, g2⟩ | ⟨e1, e2, e3⟩
    · rcases at_lt m a y h2 h4 with ⟨_, g3, g4⟩ | ⟨f1, f2, f3⟩
      · exact s.nd n m a x y g1 g3 g2 g4 t1 t2
      · subst f2; exact (old n x g1 g2 t1).elim
    · rcases at_lt m a y h2 h4 with ⟨_, g3, g4⟩ | ⟨f1, f2, f3⟩
      · subst e2; exact (old m y g3 g4 t2).elim
      · omega
  · rcases at_lt n a x h1 h2 with ⟨_, g1, g2⟩ | ⟨e1, e2, e3⟩
    · exact (s.cells n a x g1 g2).stay k fun u hu => e _ _ hu
    · subst e2 e3; exact hc
theorem StoRep.wroteC {rho : List Addr} {st : Sto} {H : Hp} (s : StoRep K cls rho st H) {n : Nat} {a : Addr} {o0 o : HO} {c0 c1 : Cell} (ha : rho[n]? = some a) (hl0 : st[n]? = some c0) (ht0 : trk c0 = true) (hH : H a = some o0) (hno : (∀ xs, o0 ≠ .tup xs) ∧ ∀ u x, o0 ≠ .frz u x) (hc : ∀ H2, H2 a = some o → Keep K rho H rho H2 → CellRep K cls rho H2 a c1) :
    Keep K rho H rho (upd H a o) ∧ StoRep K cls rho (st.set n c1) (upd H a o) := by
  have k : Keep K rho H rho (upd H a o) := ⟨⟨[], by simp⟩, fun b xs h => by
    rcases h with h | h
    · rcases h with h | ⟨o, h⟩
      · exact .inl (.inl (by rw [upd_ne (ne_of h hH (fun z => hno.1 _ z.symm))]; exact h))
      · exact .inl (.inr ⟨o, by rw [upd_ne (ne_of h hH (fun z => hno.2 _ _ z.symm))]; exact h⟩)
    · exact .inr h, fun b u ws h => by rw [upd_ne (ne_of h hH (fun z => hno.2 _ _ z.symm))]; exact h⟩
  refine ⟨k, by simp [s.len], fun m1 m2 b c d h1 h2 h3 h4 t1 t2 => ?_, fun m b c h1 h2 => ?_⟩
  · have tr : ∀ (m : Nat) (c : Cell), (st.set n c1)[m]? = some c → trk c = true → rho[m]? = some b → ∃ c', st[m]? = some c' ∧ trk c' = true := fun m c h t hr => by
      rw [List.getElem?_set] at h
      by_cases e : n = m
      · subst e
        rw [ha] at hr; cases hr
        exact ⟨_, hl0, ht0⟩
      · rw [if_neg e] at h; exact ⟨c, h, t⟩
    obtain ⟨c1, e1, f1⟩ := tr m1 c h3 t1 h1
    obtain ⟨c2, e2, f2⟩ := tr m2 d h4 t2 h2
    exact s.nd m1 m2 b c1 c2 h1 h2 e1 e2 f1 f2
  rw [List.getElem?_set] at h2
  by_cases e : n = m
  · subst e
    rw [if_pos rfl] at h2
    rw [ha] at h1; cases h1
    by_cases hl : n < st.length
    · rw [if_pos hl] at h2; cases h2
      exact hc _ upd_same k
    · rw [if_neg hl] at h2; cases h2
  · rw [if_neg e] at h2
    cases ht : trk c with
    | true =>
      have hne : b ≠ a := fun z => by
        subst z
        exact e (s.nd n m b _ c ha h1 hl0 h2 ht0 ht)
      exact (s.cells m b c h1 h2).stay k fun o ho => by rw [upd_ne hne]; exact ho
    | false =>
      cases c with
      | frz xs =>
        obtain ⟨us, p, q⟩ := s.cells m b (.frz xs) h1 h2
        refine ⟨us, ?_, q.mono k⟩
        rcases p with ⟨o, p⟩ | p
        · exact .inl ⟨o, by rw [upd_ne (ne_of p hH (fun z => hno.2 _ _ z.symm))]; exact p⟩
        · exact .inr p
      | _ => cases ht
theorem StoRep.wrote {rho : List Addr} {st : Sto} {H : Hp} (s : StoRep K cls rho st H) {n : Nat} {a : Addr} {vs ws : List V} {ds ds0 : List D} (ha : rho[n]? = some a) (hl0 : st[n]? = some (.lst ds0)) (hH : H a = some (.lst vs)) (hd : RepL K rho H ds ws) :
    Keep K rho H rho (upd H a (.lst ws)) ∧ StoRep K cls rho (st.set n (.lst ds)) (upd H a (.lst ws)) :=
  s.wroteC ha hl0 rfl hH ⟨fun _ => nofun, fun _ _ => nofun⟩ fun H2 e k => ⟨ws, e, hd.mono k⟩
end
end DD
namespace DD
open PySem PySem.Spec L2
structure G where
 K : PySem.W.Frag
 cls : CW
 tab : Nat → Ty → Option Bool
 call : Or
 xk : XK
variable (g : G)
abbrev G.Rep := DD.Rep g.K
abbrev G.RepL := DD.RepL g.K
abbrev G.Keep := DD.Keep g.K
abbrev G.Sto := DD.StoRep g.K g.cls
abbrev G.Env := DD.EnvRep g.K
def RQ {α : Type} (r : Res α) (ok : α → Sto → Prop) (rho : List Addr) (H : Hp) : Prop := match r with
 | .ok a st => ok a st
 | .exc c st => ∀ H' rho', g.Keep rho H rho' H' → g.Sto rho' st H' → g.xk (.ref (g.cls c)) none H'
 | .bad => False
def Post (rho : List Addr) (H : Hp) (Q : VK) (d : D) (st : Sto) : Prop := ∀ v H' rho', g.Keep rho H rho' H' → g.Sto rho' st H' → g.Rep rho' H' d v → Q v H'
def PostL (rho : List Addr) (H : Hp) (Q : List V → Hp → Prop) (d : List D) (st : Sto) : Prop := ∀ v H' rho', g.Keep rho H rho' H' → g.Sto rho' st H' → g.RepL rho' H' d v → Q v H'
def PostB (rho : List Addr) (H : Hp) (Q : Bool → Hp → Prop) (b : Bool) (st : Sto) : Prop := ∀ H' rho', g.Keep rho H rho' H' → g.Sto rho' st H' → Q b H'
noncomputable def tE (e : E) : TE := fun sg H Q => ∃ rho st env, g.Sto rho st H ∧ g.Env rho H env sg ∧ RQ g (evalE g.tab g.call e env st) (Post g rho H Q) rho H
noncomputable def tEs (e : Es) : TA := fun sg H Q => ∃ rho st env, g.Sto rho st H ∧ g.Env rho H env sg ∧ RQ g (evalEs g.tab g.call e env st) (PostL g rho H Q) rho H
noncomputable def tT (e : E) : TT := fun sg H Q => ∃ rho st env, g.Sto rho st H ∧ g.Env rho H env sg ∧ RQ g (evalT g.tab g.call e env st) (PostB g rho H Q) rho H
variable {g}
theorem RQ.bad {α : Type} {ok : α → Sto → Prop} {rho : List Addr} {H : Hp} (h : RQ g (.bad : Res α) ok rho H) : False := h
theorem RQ.mono {α : Type} {r : Res α} {ok ok' : α → Sto → Prop} {rho rho' : List Addr} {H H' : Hp} (k : g.Keep rho H rho' H') (h : RQ g r ok rho H) (ho : ∀ a st, ok a st → ok' a st) : RQ g r ok' rho' H' := by
 cases r with
 | ok a st => exact ho _ _ h
 | exc c st => exact fun H2 r2 k2 s2 => h H2 r2 (k.trans k2) s2
 | bad => exact h
theorem Post.mono {rho rho' : List Addr} {H H' : Hp} {Q : VK} (k : g.Keep rho H rho' H') {d : D} {st : Sto} (h : Post g rho H Q d st) : Post g rho' H' Q d st := fun v H2 r2 k2 => h v H2 r2 (k.trans k2)
theorem PostB.mono {rho rho' : List Addr} {H H' : Hp} {Q : Bool → Hp → Prop} (k : g.Keep rho H rho' H') {d : Bool} {st : Sto} (h : PostB g rho H Q d st) : PostB g rho' H' Q d st := fun H2 r2 k2 => h H2 r2 (k.trans k2)
theorem step {β : Type} {e : E} {env : Env} {sg : St} {st : Sto} {rho : List Addr} {H : Hp} {k : D → Sto → Res β} {ok : β → Sto → Prop} {Q : VK} (s : g.Sto rho st H) (n : g.Env rho H env sg)
    (h : RQ g ((evalE g.tab g.call e env st).bind k) ok rho H)
    (hk : ∀ d st1 v H1 rho1, g.Keep rho H rho1 H1 → g.Sto rho1 st1 H1 → g.Env rho1 H1 env sg → g.Rep rho1 H1 d v → RQ g (k d st1) ok rho1 H1 → Q v H1) : tE g e sg H Q := by
  refine ⟨rho, st, env, s, n, ?_⟩
  revert h
  cases evalE g.tab g.call e env st with
  | ok d st1 => exact fun h v H1 r1 k1 s1 rp => hk d st1 v H1 r1 k1 s1 (n.mono k1) rp (RQ.mono k1 h fun _ _ x => x)
  | exc c st1 => exact fun h => h
  | bad => exact fun h => h
theorem stepL {β : Type} {e : Es} {env : Env} {sg : St} {st : Sto} {rho : List Addr} {H : Hp} {k : List D → Sto → Res β} {ok : β → Sto → Prop} {Q : List V → Hp → Prop} (s : g.Sto rho st H) (n : g.Env rho H env sg)
    (h : RQ g ((evalEs g.tab g.call e env st).bind k) ok rho H)
    (hk : ∀ d st1 v H1 rho1, g.Keep rho H rho1 H1 → g.Sto rho1 st1 H1 → g.Env rho1 H1 env sg → g.RepL rho1 H1 d v → RQ g (k d st1) ok rho1 H1 → Q v H1) : tEs g e sg H Q := by
  refine ⟨rho, st, env, s, n, ?_⟩
  revert h
  cases evalEs g.tab g.call e env st with
  | ok d st1 => exact fun h v H1 r1 k1 s1 rp => hk d st1 v H1 r1 k1 s1 (n.mono k1) rp (RQ.mono k1 h fun _ _ x => x)
  | exc c st1 => exact fun h => h
  | bad => exact fun h => h
theorem stepT {β : Type} {e : E} {env : Env} {sg : St} {st : Sto} {rho : List Addr} {H : Hp} {k : Bool → Sto → Res β} {ok : β → Sto → Prop} {Q : Bool → Hp → Prop} (s : g.Sto rho st H) (n : g.Env rho H env sg)
    (h : RQ g ((evalT g.tab g.call e env st).bind k) ok rho H)
    (hk : ∀ d st1 H1 rho1, g.Keep rho H rho1 H1 → g.Sto rho1 st1 H1 → g.Env rho1 H1 env sg → RQ g (k d st1) ok rho1 H1 → Q d H1) : tT g e sg H Q := by
  refine ⟨rho, st, env, s, n, ?_⟩
  revert h
  cases evalT g.tab g.call e env st with
  | ok d st1 => exact fun h H1 r1 k1 s1 => hk d st1 H1 r1 k1 s1 (n.mono k1) (RQ.mono k1 h fun _ _ x => x)
  | exc c st1 => exact fun h => h
  | bad => exact fun h => h
variable {X : Cx} {a b c : Expr} {a' b' c' : E} {pos : Pos}
def Sd (g : G) (X : Cx) (e : Expr) (e' : E) : Prop := PE X e (tE g e')
def SdT (g : G) (X : Cx) (e : Expr) (e' : E) : Prop := PT X e (tT g e')
def SdL (g : G) (X : Cx) (es : List Expr) (es' : Es) : Prop := PA X es (tEs g es')
theorem pe_imp {t t' : TE} {e : Expr} (h : PE X e t) (hi : ∀ sg H Q, t' sg H Q → t sg H Q) : PE X e t' := fun pins s sg H Q I q => h pins s sg H Q I (hi _ _ _ q)
theorem pt_imp {t t' : TT} {e : Expr} (h : PT X e t) (hi : ∀ sg H Q, t' sg H Q → t sg H Q) : PT X e t' := fun pins s sg H Q I q => h pins s sg H Q I (hi _ _ _ q)
theorem pa_imp {t t' : TA} {e : List Expr} (h : PA X e t) (hi : ∀ sg H Q, t' sg H Q → t sg H Q) : PA X e t' := fun pos pins s sg H Q I q => h pos pins s sg H Q I (hi _ _ _ q)
theorem sd_var (i : Nat) {x : Str} {pos : Pos} (h : PE X (.Name x pos) (tVar i)) : Sd g X (.Name x pos) (.var i) := pe_imp h fun sg H Q q => by
 obtain ⟨rho, st, env, s, n, q⟩ := q
 simp only [evalE] at q
 cases e : getV env i with
 | none => rw [e] at q; exact q.elim
 | some d =>
  rw [e] at q
  have e' : env[i]? = some (some d) := by
   unfold getV at e
   cases z : env[i]? with
   | none => rw [z] at e; cases e
   | some o => rw [z] at e; cases o with
    | none => cases e
    | some y => cases e; rfl
  obtain ⟨v, e1, r⟩ := n.val i d e'
  exact ⟨v, e1, q v H rho (.refl _ _) s r⟩
theorem sd_cst {e : Expr} {v : V} {d : D} (h : PE X e (tC v)) (hr : ∀ rho H, g.Rep rho H d v) : Sd g X e (.cst d) := pe_imp h fun sg H Q q => by
 obtain ⟨rho, st, env, s, n, q⟩ := q
 exact q v H rho (.refl _ _) s (hr _ _)
theorem sd_int {i j pos} : Sd g X (.Constant (.int i) j pos) (.cst (.int i)) := sd_cst pe_int fun _ _ => by simp [Rep]
theorem sd_bl {i j pos} : Sd g X (.Constant (.bool i) j pos) (.cst (.bl i)) := sd_cst pe_bl fun _ _ => by simp [Rep]
theorem sd_non {j pos} : Sd g X (.Constant .none j pos) (.cst .non) := sd_cst pe_non fun _ _ => by simp [Rep]
theorem sd_str {x j pos} : Sd g X (.Constant (.str x) j pos) (.cst (.str x)) := sd_cst pe_str fun _ _ => by simp [Rep]
theorem sdl_nil : SdL g X [] .nil := pa_imp pa_nil fun sg H Q q => by
 obtain ⟨rho, st, env, s, n, q⟩ := q
 exact q [] H rho (.refl _ _) s (by simp [RepL])
theorem sdl_cons {e : Expr} {es : List Expr} {e' : E} {es' : Es} (h : Sd g X e e') (t : SdL g X es es') (hs : starEach (e :: es) X.env = (false, eval e X.env) :: starEach es X.env := by rfl) : SdL g X (e :: es) (.cons e' es') :=
 pa_imp (pa_cons h t hs) fun sg H Q q => by
  obtain ⟨rho, st, env, s, n, q⟩ := q
  simp only [evalEs] at q
  refine step s n q fun d st1 v H1 r1 k1 s1 n1 rp q1 => ?_
  refine stepL s1 n1 q1 fun ds st2 vs H2 r2 k2 s2 n2 rps q2 => ?_
  have q2 : PostL g rho H Q (d :: ds) st2 := q2
  exact q2 (v :: vs) H2 r2 (k1.trans k2) s2 (by simp only [RepL]; exact ⟨v, vs, rfl, rp.mono k2, rps⟩)
theorem sd_tup {es : List Expr} {es' : Es} {x1} (h : SdL g X es es') : Sd g X (.Tuple es x1 pos) (.tupE es') := pe_imp (pe_tup h) fun sg H Q q => by
 obtain ⟨rho, st, env, s, n, q⟩ := q
 simp only [evalE] at q
 refine stepL s n q fun ds st1 vs H1 r1 k1 s1 n1 rps q1 => ?_
 have hl := rps.length
 by_cases z : ds.length ≤ sizeLine
 · rw [if_pos z] at q1
   refine ⟨by omega, fun p hp => ?_⟩
   have q1 : Post g rho H Q (.tup ds) st1 := q1
   have e := same_upd hp (.tup vs)
   refine q1 (.ref p) _ r1 (k1.trans (Same.keep e r1)) (s1.same e) ?_
   simp only [Rep]
   exact ⟨p, vs, rfl, SqT.of upd_same, rps.mono (Same.keep e r1)⟩
 · rw [if_neg z] at q1; exact q1.elim
theorem sd_lst {es : List Expr} {es' : Es} (h : SdL g X es es') : Sd g X (.List es pos) (.lstE es') := pe_imp (pe_lst h) fun sg H Q q => by
 obtain ⟨rho, st, env, s, n, q⟩ := q
 simp only [evalE] at q
 refine stepL s n q fun ds st1 vs H1 r1 k1 s1 n1 rps q1 => ?_
 have hl := rps.length
 by_cases z : ds.length ≤ sizeLine
 · rw [if_pos z] at q1
   refine ⟨by omega, fun p hp => ?_⟩
   have q1 : Post g rho H Q (.loc st1.length) (st1 ++ [.lst ds]) := q1
   have e := same_upd hp (.lst vs)
   have kk : g.Keep r1 H1 (r1 ++ [p]) (upd H1 p (.lst vs)) := ⟨⟨[p], rfl⟩, (Same.keep e r1).tup, (Same.keep (K := g.K) e r1).fz⟩
   obtain ⟨k2, s2⟩ := s1.laid hp (o := .lst vs) (c := .lst ds) ⟨vs, upd_same, rps.mono kk⟩
   refine q1 (.ref p) _ _ (k1.trans k2) s2 ?_
   simp only [Rep]
   exact ⟨p, by rw [← s1.len]; simp, rfl⟩
 · rw [if_neg z] at q1; exact q1.elim
theorem two {o : V → V → Hp → VK → Prop} {k : D → D → Sto → Res D} (hop : ∀ x y u v st rho H Q, g.Sto rho st H → g.Rep rho H x u → g.Rep rho H y v → RQ g (k x y st) (Post g rho H Q) rho H → o u v H Q)
    {sg : St} {H : Hp} {Q : VK} {rho : List Addr} {st : Sto} {env : Env} (s : g.Sto rho st H) (n : g.Env rho H env sg)
    (q : RQ g ((evalE g.tab g.call a' env st).bind fun x st => (evalE g.tab g.call b' env st).bind fun y st => k x y st) (Post g rho H Q) rho H) : tOp o (tE g a') (tE g b') sg H Q := by
  refine step s n q fun x st1 u H1 r1 k1 s1 n1 rp q1 => ?_
  refine step s1 n1 q1 fun y st2 v H2 r2 k2 s2 n2 rp2 q2 => ?_
  exact hop x y u v st2 r2 H2 Q s2 (rp.mono k2) rp2 (RQ.mono (.refl _ _) q2 fun d st p => p.mono (k1.trans k2))
end DD
namespace DD
open PySem PySem.Spec L2
variable {g : G} {X : Cx} {a b c : Expr} {a' b' c' : E} {pos : Pos}
theorem big_bits {i : Int} (h : i.natAbs < BIG) : Builtin.Int.intBits i ≤ 4000 := by
 unfold Builtin.Int.intBits
 split
 · omega
 · rename_i h0
   have hz : i.natAbs ≠ 0 := by
    intro z; apply h0; simp [Int.natAbs_eq_zero.mp z]
   have : i.natAbs.log2 < 4000 := (Nat.log2_lt hz).mpr h
   omega
theorem mulOk.ok {i j : Int} (h : mulOk i j) : IntMulOk i j := by
 rcases h with h | h | h
 · exact .of_left (intBits_le_64 h.1 h.2)
 · exact .of_right (intBits_le_64 h.1 h.2)
 · exact IntMulOk.of_bits (Nat.le_trans (big_bits h.1) (by decide)) (Nat.le_trans (big_bits h.2) (by decide))
theorem divOk.py {i j : Int} (h : divOk j) : Builtin.divisionGoesByPylong i j = false := by
 refine PyProof.noPylong_of_log2 ?_
 have hz : j.natAbs ≠ 0 := fun z => h.1 (Int.natAbs_eq_zero.mp z)
 have : j.natAbs.log2 < 4000 := (Nat.log2_lt hz).mpr h.2
 omega
theorem op_mulG : OpR X (binaryOp .Mult) (rI (fun i j => mulOk i j) fun i j => .int (i * j)) := opI fun _ _ _ _ _ _ _ hc q => PyProof.Rows.mul_int q hc.ok
theorem op_fdivG : OpR X (binaryOp .FloorDiv) (rI (fun _ j => divOk j) fun i j => .int (i.fdiv j)) := opI fun _ _ _ _ _ _ _ hc q => PyProof.Rows.floordiv_int hc.1 q (.inl hc.py)
theorem rep_int {rho : List Addr} {H : Hp} {i : Int} {v : V} : g.Rep rho H (.int i) v ↔ v = .int i := by simp [Rep]
theorem rep_bl {rho : List Addr} {H : Hp} {i : Bool} {v : V} : g.Rep rho H (.bl i) v ↔ v = .bl i := by simp [Rep]
theorem rep_non {rho : List Addr} {H : Hp} {v : V} : g.Rep rho H .non v ↔ v = .non := by simp [Rep]
theorem rep_str {rho : List Addr} {H : Hp} {x : Str} {v : V} : g.Rep rho H (.str x) v ↔ v = .str x := by simp [Rep]
theorem rep_loc {rho : List Addr} {H : Hp} {n : Nat} {v : V} : g.Rep rho H (.loc n) v ↔ ∃ a, rho[n]? = some a ∧ v = .ref a := by simp [Rep]
theorem rep_tup {rho : List Addr} {H : Hp} {ds : List D} {v : V} : g.Rep rho H (.tup ds) v ↔ ∃ a vs, v = .ref a ∧ SqT g.K H a vs ∧ g.RepL rho H ds vs := by simp [Rep]
theorem sto_lst {rho : List Addr} {st : Sto} {H : Hp} (s : g.Sto rho st H) {n : Nat} {ds : List D} (h : st[n]? = some (.lst ds)) : ∃ a vs, rho[n]? = some a ∧ H a = some (.lst vs) ∧ g.RepL rho H ds vs := by
 have hl : n < rho.length := by rw [s.len]; exact (List.getElem?_eq_some_iff.mp h).1
 obtain ⟨vs, p, q⟩ := s.cells n rho[n] (.lst ds) (List.getElem?_eq_getElem hl) h
 exact ⟨_, vs, List.getElem?_eq_getElem hl, p, q⟩
theorem sto_seq {rho : List Addr} {st : Sto} {H : Hp} (s : g.Sto rho st H) {n : Nat} {ds : List D} (h : lstOf st n = some ds) : ∃ a vs, rho[n]? = some a ∧ SqL g.K H a vs ∧ g.RepL rho H ds vs := by
 unfold lstOf at h
 split at h
 · rename_i xs e
   cases h
   obtain ⟨a, vs, p, q, r⟩ := sto_lst s e
   exact ⟨a, vs, p, SqL.of q, r⟩
 · rename_i xs e
   cases h
   have hl : n < rho.length := by rw [s.len]; exact (List.getElem?_eq_some_iff.mp e).1
   obtain ⟨vs, p, q⟩ := s.cells n rho[n] (.frz ds) (List.getElem?_eq_getElem hl) e
   exact ⟨_, vs, List.getElem?_eq_getElem hl, p.elim (fun ⟨o, p⟩ => .inl (.inr ⟨o, p⟩)) .inr, q⟩
 · cases h
theorem new_lst {rho : List Addr} {st : Sto} {H : Hp} (s : g.Sto rho st H) {ds : List D} {vs : List V} (r : g.RepL rho H ds vs) {p : Addr} (hp : H p = none) {Q : VK} (q : Post g rho H Q (.loc st.length) (st ++ [.lst ds])) : Q (.ref p) (upd H p (.lst vs)) := by
 have e := same_upd hp (.lst vs)
 have kk : g.Keep rho H (rho ++ [p]) (upd H p (.lst vs)) := ⟨⟨[p], rfl⟩, (Same.keep e rho).tup, (Same.keep (K := g.K) e rho).fz⟩
 obtain ⟨k2, s2⟩ := s.laid hp (o := .lst vs) (c := .lst ds) ⟨vs, upd_same, r.mono kk⟩
 refine q (.ref p) _ _ k2 s2 (rep_loc.mpr ⟨p, by rw [← s.len]; simp, rfl⟩)
theorem sd_add (ha : Sd g X a a') (hb : Sd g X b b') : Sd g X (.BinOp a .Add b pos) (.op .add a' b') := pe_imp (pe_op (OpR.or op_add (OpR.or op_cat op_add_str)) ha hb) fun sg H Q q => by
 obtain ⟨rho, st, env, s, n, q⟩ := q
 simp only [evalE] at q
 refine two (k := opD .add) ?_ s n q
 intro x y u v st rho H Q s rx ry q
 cases x with
 | int i =>
  cases y with
  | int j => exact .inl ⟨i, j, rep_int.mp rx, rep_int.mp ry, q _ H rho (.refl _ _) s (rep_int.mpr rfl)⟩
  | _ => exact q.elim
 | loc i =>
  cases y with
  | loc j =>
   simp only [opD] at q
   split at q
   · rename_i xs ys e1 e2
     split at q
     · rename_i z
       obtain ⟨p1, v1, a1, h1, r1⟩ := sto_lst s e1
       obtain ⟨p2, v2, a2, h2, r2⟩ := sto_lst s e2
       obtain ⟨b1, c1, d1⟩ := rep_loc.mp rx
       obtain ⟨b2, c2, d2⟩ := rep_loc.mp ry
       rw [a1] at c1; cases c1
       rw [a2] at c2; cases c2
       exact .inr (.inl ⟨p1, p2, v1, v2, d1, d2, h1, h2, by rw [← r1.length, ← r2.length]; exact z, fun p hp => new_lst s (r1.append r2) hp q⟩)
     · exact q.elim
   · exact q.elim
  | _ => exact q.elim
 | str i =>
  cases y with
  | str j =>
   simp only [opD] at q
   split at q
   · rename_i z
     exact .inr (.inr ⟨i, j, rep_str.mp rx, rep_str.mp ry, z, q _ H rho (.refl _ _) s (rep_str.mpr rfl)⟩)
   · exact q.elim
  | _ => exact q.elim
 | _ => exact q.elim
theorem sd_mul (hK : X.K = g.K) (ha : Sd g X a a') (hb : Sd g X b b') : Sd g X (.BinOp a .Mult b pos) (.op .mul a' b') := pe_imp (pe_op (OpR.or op_mulG (OpR.or op_rep (OpR.or op_repS op_repT))) ha hb) fun sg H Q q => by
 obtain ⟨rho, st, env, s, n, q⟩ := q
 simp only [evalE] at q
 refine two (k := opD .mul) ?_ s n q
 intro x y u v st rho H Q s rx ry q
 cases x with
 | int i =>
  cases y with
  | int j =>
   simp only [opD] at q
   split at q
   · rename_i z
     exact .inl ⟨i, j, rep_int.mp rx, rep_int.mp ry, z, q _ H rho (.refl _ _) s (rep_int.mpr rfl)⟩
   · exact q.elim
  | _ => exact q.elim
 | loc i =>
  cases y with
  | int k =>
   simp only [opD] at q
   split at q
   · rename_i xs e1
     split at q
     · rename_i z
       obtain ⟨p1, v1, a1, h1, r1⟩ := sto_lst s e1
       obtain ⟨b1, c1, d1⟩ := rep_loc.mp rx
       rw [a1] at c1; cases c1
       exact .inr (.inl ⟨p1, k, v1, d1, rep_int.mp ry, h1, z.1, z.2.1, by rw [← r1.length]; exact z.2.2, fun p hp => new_lst s (r1.rep _) hp q⟩)
     · exact q.elim
   · exact q.elim
  | _ => exact q.elim
 | str i =>
  cases y with
  | int k =>
   simp only [opD] at q
   split at q
   · rename_i z
     exact .inr (.inr (.inl ⟨i, k, rep_str.mp rx, rep_int.mp ry, z.1, z.2.1, z.2.2.1, z.2.2.2, q _ H rho (.refl _ _) s (rep_str.mpr rfl)⟩))
   · exact q.elim
  | _ => exact q.elim
 | tup ds =>
  cases y with
  | int k =>
   simp only [opD] at q
   split at q
   · rename_i z
     obtain ⟨a1, vs, d1, h1, r1⟩ := rep_tup.mp rx
     have hl := r1.length
     refine .inr (.inr (.inr ⟨a1, k, vs, d1, rep_int.mp ry, by rw [hK]; exact h1, z.1, z.2.1, by rw [← hl]; exact z.2.2, fun e => ?_, fun p hp => ?_⟩))
     · refine q _ H rho (.refl _ _) s ?_
       have := r1.rep k.toNat
       rw [e] at this
       exact rep_tup.mpr ⟨a1, vs, rfl, h1, this⟩
     · have e := same_upd hp (.tup (List.replicate k.toNat vs).flatten)
       refine q (.ref p) _ rho (Same.keep e rho) (s.same e) ?_
       exact rep_tup.mpr ⟨p, _, rfl, SqT.of upd_same, (r1.rep k.toNat).mono (Same.keep e rho)⟩
   · exact q.elim
  | _ => exact q.elim
 | _ => exact q.elim
theorem sd_fdiv (ha : Sd g X a a') (hb : Sd g X b b') : Sd g X (.BinOp a .FloorDiv b pos) (.op .fdiv a' b') := pe_imp (pe_op op_fdivG ha hb) fun sg H Q q => by
 obtain ⟨rho, st, env, s, n, q⟩ := q
 simp only [evalE] at q
 refine two (k := opD .fdiv) ?_ s n q
 intro x y u v st rho H Q s rx ry q
 cases x with
 | int i =>
  cases y with
  | int j =>
   simp only [opD] at q
   split at q
   · rename_i z
     exact ⟨i, j, rep_int.mp rx, rep_int.mp ry, z, q _ H rho (.refl _ _) s (rep_int.mpr rfl)⟩
   · exact q.elim
  | _ => exact q.elim
 | _ => exact q.elim
theorem sd_mod (ha : Sd g X a a') (hb : Sd g X b b') : Sd g X (.BinOp a .Mod b pos) (.op .mod a' b') := pe_imp (pe_op op_modN ha hb) fun sg H Q q => by
 obtain ⟨rho, st, env, s, n, q⟩ := q
 simp only [evalE] at q
 refine two (k := opD .mod) ?_ s n q
 intro x y u v st rho H Q s rx ry q
 cases x with
 | int i =>
  cases y with
  | int j =>
   simp only [opD] at q
   split at q
   · rename_i z
     exact ⟨i, j, rep_int.mp rx, rep_int.mp ry, z, q _ H rho (.refl _ _) s (rep_int.mpr rfl)⟩
   · exact q.elim
  | _ => exact q.elim
 | _ => exact q.elim
theorem sd_pow (ha : Sd g X a a') (hb : Sd g X b b') : Sd g X (.BinOp a .Pow b pos) (.op .pow a' b') := pe_imp (pe_op op_pow ha hb) fun sg H Q q => by
 obtain ⟨rho, st, env, s, n, q⟩ := q
 simp only [evalE] at q
 refine two (k := opD .pow) ?_ s n q
 intro x y u v st rho H Q s rx ry q
 cases x with
 | int i =>
  cases y with
  | int j =>
   simp only [opD] at q
   split at q
   · rename_i z
     exact ⟨i, j, rep_int.mp rx, rep_int.mp ry, z, q _ H rho (.refl _ _) s (rep_int.mpr rfl)⟩
   · exact q.elim
  | _ => exact q.elim
 | _ => exact q.elim
end DD
namespace DD
open PySem PySem.Spec L2
open PyProof.Rows hiding St
structure Flew (P : Program) (w : World) (outer : List PySem.Env) (H : Hp) (s : Shared) (C a t : Addr) (H' : Hp) (B : Heap) (s' : Shared) : Prop where
 os : s'.os = s.os
 bare : AllBare s'.gens
 fly : Heap.FlyingW B outer a (.ref C) (.ref t) s'.heap
 keep : ∀ b o, s.heap.get? b = some o → H b = none → b ∉ frs outer → B.get? b = some o
 there : ∀ b o, s.heap.get? b = some o → b ∉ frs outer → ∃ o', B.get? b = some o'
 free : ∀ b o, s.heap.get? b = some o → H b = none → H' b = none
 slot : ∀ b o, s.heap.get? b = some o → H b = none → b ∈ frs outer → ∃ sl, s'.heap.get? b = some { o with slots := sl }
 tups : ∀ b xs, H b = some (.tup xs) → H' b = some (.tup xs)
 frzs : ∀ b o u, H b = some (.frz o u) → H' b = some (.frz o u)
 tbls : ∀ b ps, H b = some (.tbl ps) → ∃ more, H' b = some (.tbl (ps ++ more))
 hok : HOk P w H' B
noncomputable def CXd (P : Program) (w : World) : CXT := fun outer H s E e s' => ∃ (C a t : Addr) (H' : Hp) (B : Heap), e = .ref a ∧ Flew P w outer H s C a t H' B s' ∧ E (.ref C) none H'
theorem frs_cons {env : PySem.Env} {L : Addr} (h : env.frame = some L) (outer : List PySem.Env) : frs (env :: outer) = L :: frs outer := by
 unfold frs; rw [List.filterMap_cons, h]
section
variable {P : Program} {w : World} {K : PySem.W.Frag} {mg : Str → Option Value} {base : Heap} {N : List Str} {qual : Str} {scope : Scope} {f : Addr} {cd : Value} {A : Around} {outer : List PySem.Env} {s : Shared} {H : Hp} {E : XK}
theorem pass_def : Passes (CXd P w) (cxOf (CXd P w) P w K mg base N qual scope f cd A outer s H E) E := by
 intro pins sg H1 s1 e s2 I h
 obtain ⟨C, a, t, H', B, rfl, F, q⟩ := h
 have hf : (envOfC qual scope s.heap.objs.size f cd).frame = some s.heap.objs.size := rfl
 have hstk : (cxOf (CXd P w) P w K mg base N qual scope f cd A outer s H E).stack = envOfC qual scope s.heap.objs.size f cd :: outer := rfl
 have hfr := frs_cons hf outer
 rw [hstk] at F
 have hb : ∀ b o, s.heap.get? b = some o → b ∉ frs outer → b ∉ frs (envOfC qual scope s.heap.objs.size f cd :: outer) := fun b o e hn => by
  rw [hfr]
  intro m
  rcases List.mem_cons.mp m with z | z
  · have := Heap.lt_size e; rw [z] at this; exact Nat.lt_irrefl _ this
  · exact hn z
 have up : ∀ b o, s.heap.get? b = some o → ∃ o', s1.heap.get? b = some o' := fun b o e => I.base.there b o e (by intro z; cases z)
 show wpAny (model P w) (A.deeper (envOfC qual scope s.heap.objs.size f cd)) (leaving (envOfC qual scope s.heap.objs.size f cd) (.ref a)) (fun _ s'' => CXd P w outer H s E (.ref a) s'') (fun e' s'' => CXd P w outer H s E e' s'') s2
 refine wpAny_leaves_onW (I.ok.frames) hf F.fly fun h' fl us => ?_
 refine ⟨C, a, t, H', B, rfl, ⟨F.os.trans I.os, F.bare, fl, fun b o e n hn => ?_, fun b o e hn => ?_, fun b o e n => ?_, fun b o e n hm => ?_, fun b xs e => F.tups _ _ (I.base.tups _ _ e), fun b o u e => F.frzs _ _ _ (I.base.frzs _ _ _ e), fun b ps e => ?_, F.hok⟩, q⟩
 · exact F.keep b o (I.base.keep b o e n hn (by intro z; cases z)) (I.base.free b o e n (by intro z; cases z)) (hb b o e hn)
 · obtain ⟨o', e'⟩ := up b o e
   exact F.there b o' e' (hb b o e hn)
 · obtain ⟨o', e'⟩ := up b o e
   exact F.free b o' e' (I.base.free b o e n (by intro z; cases z))
 · obtain ⟨sl, e1⟩ := I.base.slot b o e n hm (by intro z; cases z)
   have n1 := I.base.free b o e n (by intro z; cases z)
   obtain ⟨sl2, e2⟩ := F.slot b _ e1 n1 (by rw [hfr]; exact List.mem_cons_of_mem _ hm)
   have nf : ∀ vs, o.data ≠ .fields vs := by
    obtain ⟨_, o2, ho2, hd2⟩ := I.ok.funs.mem hm
    have : s.heap.get? b = some o2 := ho2
    rw [e] at this; cases this; exact hd2
   obtain ⟨sl3, e3⟩ := us b _ e2 nf
   exact ⟨sl3, e3⟩
 · obtain ⟨m1, e1⟩ := I.base.tbls b ps e
   obtain ⟨m2, e2⟩ := F.tbls b _ e1
   exact ⟨m1 ++ m2, by rw [e2, Array.append_assoc]⟩
end
end DD
namespace DD
open PySem PySem.Spec L2
open PyProof.Rows hiding St
abbrev Cx.hd (X : Cx) (a : Addr) : Cx := { X with A := X.A.mark (some (.ref a)), calm := false, xe := fun _ _ => False }
end DD
namespace DD
open PySem PySem.Spec L2
open PyProof.Rows hiding St
end DD
namespace DD
open PySem PySem.Spec PySem.W PySem.Calls PyProof.Rows Builtin Builtin.ObjectAttr Builtin.Getset_descriptor
structure ExcC (K : Frag) (C : Addr) : Prop where
 cl : (clsIn K C).isSome = true
 ga : findIn K (.ref C) "__getattribute__" = some (some (.builtin "BaseException.__getattribute__"))
 gn : findIn K (.ref C) "__getattr__" = some none
 ha : findIn K (.ref C) "__class__" = some (some (.builtin "object.__class__"))
 hn : specialIn K (.builtin "object.__class__") "__get__" = some (some (.builtin "getset_descriptor.__get__"))
 tk : takesIn K (.builtin "object.__class__") = some true
 ob : mroIn K C (.type "object") = some true
 be : mroIn K C (.type "BaseException") = some true
section
variable {prog : Program} {w : World} {A : Around} {E : Value → Shared → Prop} {s : Shared} {K : Frag} {x C : Addr}
theorem class_getX {R : Result → Shared → Prop} {tp : Value} (X : K.In s.heap) (L0 : Looks (model prog w) s.heap (typeOf (.ref x)) (.ref C)) (hm : mroIn K C (.type "object") = some true)
    (h : R (.ok (.ret (.ref C))) s) : codeAny (model prog w) A (.call (.builtin "getset_descriptor.__get__") ⟨[.builtin "object.__class__", .ref x, tp], []⟩) R s := by
  obtain ⟨hh, g, dr, t, os⟩ := s
  have L1 := looks_mroIn (M := model prog w) X hm
  refine codeAny_call_builtin KF.slot_gs.plain KF.entry_gs (KF.slot_gs.check _ _ _ _ _ _ _ _ KF.type_class (KF.args_gs _ _ _) ?_)
  unfold Builtin.«getset_descriptor.__get__» descrGet
  rw [dga_obj]
  refine wpAny_bind (wpAny_pure ?_)
  unfold descrGetter descrCheckInstance descrNameAndClass isInstance
  simp only [KF.owner_class]
  repeat lk
  refine ⟨Code.quiet_builtin _ (by decide +kernel), codeAny_builtin KF.entry_class ?_⟩
  unfold Builtin.«object.__class__» shownTypeOf
  repeat lk
  exact h
theorem find_class (X : K.In s.heap) (ec : ExcC K C) {M : Model} : Looks M s.heap (Builtin.ObjectAttr.find (.ref x) (.ref C) "__class__") (.bind (.builtin "getset_descriptor.__get__") (.builtin "object.__class__")) := by
 have L1 := looks_findIn (M := M) X ec.ha
 have L2 : Looks M s.heap (Builtin.ObjectAttr.getOf (some (.builtin "object.__class__"))) (some (.builtin "getset_descriptor.__get__")) := looks_specialIn X ec.hn
 have L3 := looks_takesIn (M := M) X ec.tk
 refine L1.andThen (L2.andThen ?_)
 exact (show Looks M s.heap (Builtin.ObjectAttr.dataDescriptor? (some (.builtin "object.__class__")) (some (.builtin "getset_descriptor.__get__"))) (some (.builtin "getset_descriptor.__get__", .builtin "object.__class__")) from L3.andThen .now).andThen (Looks.tag .now)
theorem exc_entry {tk : Tok} {Q : Fin → Shared → Prop} (X : K.In s.heap) (ec : ExcC K C) (L0 : Looks (model prog w) s.heap (typeOf (.ref x)) (.ref C)) (hq : Q (.done (.ret (.ref C))) s) :
    wpAny (model prog w) A (Builtin.«object.__getattribute__» ⟨[.ref x, .str "__class__" tk], []⟩) Q E s := by
  have LF := find_class (x := x) X ec (M := model prog w)
  have hc := class_getX (A := A) (tp := .ref C) (R := fun r s' => match r with | .ok (.ret v) => v = .ref C ∧ s' = s | _ => False) X L0 ec.ob ⟨rfl, rfl⟩
  obtain ⟨hh, g, dr, t, os⟩ := s
  unfold Builtin.«object.__getattribute__»
  repeat (first | (with_reducible refine wpAny_call (codeAny_mono hc fun r s' hr => ?_)) | lk)
  cases r with
  | error e => exact hr.elim
  | ok f =>
    cases f with
    | ret v => obtain ⟨rfl, rfl⟩ := hr; exact wpAny_pure hq
    | _ => exact hr.elim
theorem exc_check {tk : Tok} {Q : Unit → Shared → Prop} (X : K.In s.heap) (ec : ExcC K C) (L0 : Looks (model prog w) s.heap (typeOf (.ref x)) (.ref C)) (hq : Q () s) :
    wpAny (model prog w) A (checkBuiltinCall "BaseException.__getattribute__" ⟨[.ref x, .str "__class__" tk], []⟩) Q E s := by
  have hk : builtinKind "BaseException.__getattribute__" = some .slot := by decide +kernel
  have hsplit : splitId "BaseException.__getattribute__" = some ("BaseException", "__getattribute__") := by decide +kernel
  have ha := F.args_bexc_ga (.ref x) (.str "__class__" tk)
  have L1 := looks_mroIn (M := model prog w) X ec.be
  obtain ⟨hh, g, dr, t, os⟩ := s
  simp only [checkBuiltinCall, hk, hsplit]
  refine wpAny_bind ?_
  unfold isInstance
  repeat (first | lk | wp_step)
  exact hq
theorem exc_call {tk : Tok} {R : Result → Shared → Prop} (X : K.In s.heap) (ec : ExcC K C) (L0 : Looks (model prog w) s.heap (typeOf (.ref x)) (.ref C)) (hq : R (.ok (.ret (.ref C))) s) :
    codeAny (model prog w) A (.call (.builtin "BaseException.__getattribute__") ⟨[.ref x, .str "__class__" tk], []⟩) R s :=
  codeAny_call_builtin (by decide +kernel) F.entry_bexc_ga (exc_check X ec L0 (exc_entry X ec L0 hq))
theorem exc_attr {Q : Option Value → Shared → Prop} (X : K.In s.heap) (ec : ExcC K C) (L0 : Looks (model prog w) s.heap (typeOf (.ref x)) (.ref C)) (hq : Q (some (.ref C)) { s with toks := s.toks + 1 }) :
    wpAny (model prog w) A (getAttr? (.ref x) "__class__") Q E s := by
  have hx2 : (Value.builtin "BaseException.__getattribute__" == Value.builtin "object.__getattribute__") = false := by decide +kernel
  have L1 := looks_findIn (M := model prog w) X ec.ga
  have L2 := looks_findIn (M := model prog w) X ec.gn
  have hc := exc_call (s := { s with toks := s.toks + 1 }) (A := A) (tk := s.toks) (R := fun r s' => match r with | .ok (.ret v) => v = .ref C ∧ s' = { s with toks := s.toks + 1 } | _ => False) X ec L0 ⟨rfl, rfl⟩
  obtain ⟨hh, g, d, t, os⟩ := s
  unfold getAttr? getAttrBy? getAttrBy
  refine wpAny_bind (wpAny_mkText (wpAny_bind (wpAny_attempt (wpAny_holding (wpAny_bind (L0.at (wpAny_bind (L1.at ?_))))))))
  dsimp only
  rw [hx2, Bool.and_false, if_neg Bool.false_ne_true]
  have hb : bindSpecial (.builtin "BaseException.__getattribute__") (.ref x) = pure (.builtin "BaseException.__getattribute__", [.ref x]) := by
    have hop : withoutEnding? "BaseException.__getattribute__" "#opaque" = none := by decide +kernel
    have hdat : withoutEnding? "BaseException.__getattribute__" "#data" = none := by decide +kernel
    have hkd : builtinKind "BaseException.__getattribute__" = some .slot := by decide +kernel
    simp only [bindSpecial, typeOf, builtinType, hop, hdat, hkd]; rfl
  unfold getAttrByItsOwn hookBefore callGetattribute boundAndCalled
  rw [show onTheHeap (.ref C) = true from rfl, if_pos rfl]
  refine wpAny_bind (L2.at ?_)
  refine wpAny_bind (wpAny_attempt (wpAny_holding ?_))
  rw [if_neg (by simp)]
  refine wpAny_bind (wpAny_of_eq hb ?_)
  show wpAny (model prog w) A (call (.builtin "BaseException.__getattribute__") [.ref x, .str "__class__" t]) _ _ _
  refine wpAny_call (codeAny_mono hc fun r s' hr => ?_)
  cases r with
  | error e => exact hr.elim
  | ok f =>
    cases f with
    | ret v =>
      obtain ⟨rfl, rfl⟩ := hr
      exact wpAny_of_eq (handedOut_of rfl) (wpAny_pure hq)
    | _ => exact hr.elim
theorem kitx_exc (ec : ExcC K C) : KitX K (.ref x) (.ref C) (fun h => ∃ o, h.get? x = some o ∧ o.cls = .ref C) where
 ty := fun M h _ ⟨o, e, hc⟩ => hc ▸ (Looks.ld e).andThen .now
 it := fun _ _ X _ => by
  obtain ⟨cd, hcd⟩ := Option.isSome_iff_exists.mp ec.cl
  unfold clsIn at hcd
  split at hcd
  · rename_i c' d' cd' sl' ho
    intro A' Q' E' s' k q
    unfold isType loadHead
    exact wpAny_bind (wpAny_loadPart (k _ _ (X _ _ ho)) (wpAny_pure q))
  · cases hcd
 ne := fun h tp dd its n sl X htp => by
  obtain ⟨cd, hcd⟩ := Option.isSome_iff_exists.mp ec.cl
  refine Bool.eq_false_iff.mpr fun q => ?_
  have e : C = tp := Value.ref.inj (beq_iff_eq.mp q)
  subst e
  unfold clsIn at hcd
  split at hcd
  · rename_i ho
    have := X _ _ ho
    rw [htp] at this
    cases this
  · cases hcd
 ca := fun X ⟨o, e, hc⟩ hq => exc_attr X ec (hc ▸ (Looks.ld e).andThen .now) hq
end
end DD
namespace DD
open PySem PySem.Spec L2
variable {g : G} {X : Cx} {a b c : Expr} {a' b' c' : E} {pos : Pos}
theorem reads_all {H : Hp} {s : Shared} {rho : List Addr} {f : D → Option PyData}
    (hf : ∀ (d : D) (v : V) (u : Value) (p : PyData), g.Rep rho H d v → RelV v u → f d = some p → ∃ as, Reads s.heap u p as) :
    ∀ {ds : List D} {vs : List V} {us : List Value} {ps : List PyData}, g.RepL rho H ds vs → Vals vs us → optAll (ds.map f) = some ps → ∃ as, ReadsAll s.heap us ps as
  | [], vs, us, ps, r, rv, e => by
    simp only [RepL] at r; subst r
    cases rv
    simp [optAll] at e; subst e
    exact ⟨[], .nil⟩
  | d :: t, vs, us, ps, r, rv, e => by
    simp only [RepL] at r
    obtain ⟨v, w, rfl, r1, r2⟩ := r
    cases rv with
    | cons q1 q2 =>
      simp only [List.map_cons] at e
      cases ed : f d with
      | none => rw [ed] at e; simp [optAll] at e
      | some p =>
        rw [ed] at e
        simp only [optAll] at e
        cases et : optAll (t.map f) with
        | none => rw [et] at e; cases e
        | some ps' =>
          rw [et] at e; cases e
          obtain ⟨as, h1⟩ := hf _ _ _ _ r1 q1 ed
          obtain ⟨bs, h2⟩ := reads_all hf r2 q2 et
          exact ⟨as ++ bs, .cons h1 h2⟩
theorem reads {pins : List (Addr × Obj)} {sg : L2.St} {H : Hp} {s : Shared} {rho : List Addr} {st : Sto} (hK : X.K = g.K) (I : Inv X pins sg H s) (S : g.Sto rho st H) :
    ∀ (n : Nat) (d : D) (v : V) (u : Value) (p : PyData), g.Rep rho H d v → RelV v u → pyOf st n d = some p → ∃ as, Reads s.heap u p as := by
  intro n
  induction n with
  | zero =>
    intro d v u p r rv e
    cases d with
    | non => cases rep_non.mp r; simp [pyOf] at e; subst e; cases rv; exact ⟨_, .none⟩
    | bl b => cases rep_bl.mp r; simp [pyOf] at e; subst e; cases rv; exact ⟨_, .bool b⟩
    | int i => cases rep_int.mp r; simp [pyOf] at e; subst e; obtain ⟨t, rfl⟩ := rv; exact ⟨_, .int i t⟩
    | str x => cases rep_str.mp r; simp [pyOf] at e; obtain ⟨_, rfl⟩ := e; obtain ⟨t, rfl⟩ := rv; exact ⟨_, .str x t⟩
    | tup ds => simp [pyOf] at e
    | loc m => simp [pyOf] at e
  | succ n ih =>
    intro d v u p r rv e
    cases d with
    | non => cases rep_non.mp r; simp [pyOf] at e; subst e; cases rv; exact ⟨_, .none⟩
    | bl b => cases rep_bl.mp r; simp [pyOf] at e; subst e; cases rv; exact ⟨_, .bool b⟩
    | int i => cases rep_int.mp r; simp [pyOf] at e; subst e; obtain ⟨t, rfl⟩ := rv; exact ⟨_, .int i t⟩
    | str x => cases rep_str.mp r; simp [pyOf] at e; obtain ⟨_, rfl⟩ := e; obtain ⟨t, rfl⟩ := rv; exact ⟨_, .str x t⟩
    | tup ds =>
      obtain ⟨a, vs, rfl, q, rl⟩ := rep_tup.mp r
      simp only [pyOf] at e
      cases eo : optAll (ds.map (pyOf st n)) with
      | none => rw [eo] at e; cases e
      | some ps =>
        rw [eo] at e; cases e
        rw [← hK] at q
        obtain ⟨its, rvs, ⟨o, ho, hc, n', hd⟩, _⟩ := I.tuple q
        obtain ⟨as, h2⟩ := reads_all ih rl rvs eo
        cases rv
        exact ⟨as, .tuple ho hc hd (by simpa using h2)⟩
    | loc m =>
      simp only [pyOf] at e
      cases el : lstOf st m with
      | none => rw [el] at e; cases e
      | some ds =>
        rw [el] at e
        simp only [Option.bind_some] at e
        cases eo : optAll (ds.map (pyOf st n)) with
        | none => rw [eo] at e; cases e
        | some ps =>
          rw [eo] at e; cases e
          obtain ⟨a, vs, hr, q, rl⟩ := sto_seq S el
          obtain ⟨a2, h1, h2⟩ := rep_loc.mp r
          rw [hr] at h1; cases h1
          subst h2
          rw [← hK] at q
          obtain ⟨its, rvs, ⟨o, n', ho, hc, _, hd⟩, _⟩ := I.list q
          obtain ⟨as, h3⟩ := reads_all ih rl rvs eo
          cases rv
          exact ⟨a :: as, .list ho hc hd (by simpa using h3)⟩
theorem py_shape {st : Sto} : ∀ (n : Nat) (d : D) (p : PyData), pyOf st n d = some p → p.canLay0 = true ∧ p.depth ≤ n := by
 have all : ∀ (n : Nat), (∀ (d : D) (p : PyData), pyOf st n d = some p → p.canLay0 = true ∧ p.depth ≤ n) → ∀ (ds : List D) (ps : List PyData), optAll (ds.map (pyOf st n)) = some ps → PyData.canLayAll0 ps = true ∧ PyData.depthAll ps ≤ n := by
  intro n ih ds
  induction ds with
  | nil => intro ps e; simp [optAll] at e; subst e; exact ⟨rfl, Nat.zero_le _⟩
  | cons d t ih2 =>
   intro ps e
   simp only [List.map_cons] at e
   cases ed : pyOf st n d with
   | none => rw [ed] at e; simp [optAll] at e
   | some p =>
    rw [ed] at e
    simp only [optAll] at e
    cases et : optAll (t.map (pyOf st n)) with
    | none => rw [et] at e; cases e
    | some ps' =>
     rw [et] at e; cases e
     obtain ⟨h1, h2⟩ := ih _ _ ed
     obtain ⟨h3, h4⟩ := ih2 _ et
     exact ⟨by simp only [PyData.canLayAll0, h1, h3, Bool.and_self], by simp only [PyData.depthAll]; exact Nat.max_le.mpr ⟨h2, h4⟩⟩
 intro n
 induction n with
 | zero =>
  intro d p e
  cases d <;> simp [pyOf] at e <;> first | (subst e; exact ⟨rfl, Nat.zero_le _⟩) | (obtain ⟨h, rfl⟩ := e; exact ⟨h, Nat.zero_le _⟩)
 | succ n ih =>
  intro d p e
  cases d with
  | non => simp [pyOf] at e; subst e; exact ⟨rfl, Nat.zero_le _⟩
  | bl b => simp [pyOf] at e; subst e; exact ⟨rfl, Nat.zero_le _⟩
  | int i => simp [pyOf] at e; subst e; exact ⟨rfl, Nat.zero_le _⟩
  | str x => simp [pyOf] at e; obtain ⟨h, rfl⟩ := e; exact ⟨h, Nat.zero_le _⟩
  | tup ds =>
   simp only [pyOf] at e
   cases eo : optAll (ds.map (pyOf st n)) with
   | none => rw [eo] at e; cases e
   | some ps =>
    rw [eo] at e; cases e
    obtain ⟨h1, h2⟩ := all n ih _ _ eo
    exact ⟨h1, by simp only [PyData.depth]; omega⟩
  | loc m =>
   simp only [pyOf] at e
   cases el : lstOf st m with
   | none => rw [el] at e; cases e
   | some ds =>
    rw [el] at e
    simp only [Option.bind_some] at e
    cases eo : optAll (ds.map (pyOf st n)) with
    | none => rw [eo] at e; cases e
    | some ps =>
     rw [eo] at e; cases e
     obtain ⟨h1, h2⟩ := all n ih _ _ eo
     exact ⟨h1, by simp only [PyData.depth]; omega⟩
theorem py_shaped {st : Sto} {n : Nat} {d : D} {p : PyData} (h : pyOf st n d = some p) (hn : n ≤ 64) : SeqAt.shaped p = true := by
 obtain ⟨h1, h2⟩ := py_shape n d p h
 unfold SeqAt.shaped
 rw [h1, decide_eq_true (by omega : p.depth ≤ 64)]
 rfl
noncomputable def rEqD (g : G) (neg : Bool) : R2 := fun x y H Q => ∃ rho st d e p q, g.Sto rho st H ∧ g.Rep rho H d x ∧ g.Rep rho H e y ∧ pyOf st 40 d = some p ∧ pyOf st 40 e = some q ∧ Q (.bl (if neg then !PyData.eqv p q else PyData.eqv p q)) H
theorem op_eqD (hK : X.K = g.K) (hu : X.A.units + 64 < cLine) : OpR X (compareOp .Eq) (rEqD g false) := by
 intro pins s sg H x y v u Q I rx ry h
 obtain ⟨rho, st, d, e, p, q, S, r1, r2, e1, e2, hq⟩ := h
 obtain ⟨as, h1⟩ := reads hK I S 40 d x v p r1 rx e1
 obtain ⟨bs, h2⟩ := reads hK I S 40 e y u q r2 ry e2
 exact SeqAt.compareEq_shaped h1 h2 (py_shaped e1 (by decide)) (py_shaped e2 (by decide)) hu ⟨.bl _, H, I, rfl, hq⟩
theorem op_neD (hK : X.K = g.K) (hu : X.A.units + 64 < cLine) : OpR X (compareOp .NotEq) (rEqD g true) := by
 intro pins s sg H x y v u Q I rx ry h
 obtain ⟨rho, st, d, e, p, q, S, r1, r2, e1, e2, hq⟩ := h
 obtain ⟨as, h1⟩ := reads hK I S 40 d x v p r1 rx e1
 obtain ⟨bs, h2⟩ := reads hK I S 40 e y u q r2 ry e2
 exact SeqAt.compareNe_shaped h1 h2 (py_shaped e1 (by decide)) (py_shaped e2 (by decide)) hu ⟨.bl _, H, I, rfl, hq⟩
theorem eqV_some {st : Sto} {x y : D} {b : Bool} (h : eqV st x y = some b) : ∃ p q, pyOf st 40 x = some p ∧ pyOf st 40 y = some q ∧ b = PyData.eqv p q := by
 unfold eqV at h
 cases e1 : pyOf st 40 x with
 | none => rw [e1] at h; cases h
 | some p =>
  cases e2 : pyOf st 40 y with
  | none => rw [e1, e2] at h; cases h
  | some q => rw [e1, e2] at h; cases h; exact ⟨p, q, rfl, rfl, rfl⟩
end DD
namespace DD
open PySem PySem.Spec L2
open PyProof.Rows hiding St RelV
def IsN (hp : Heap) : Nat → D → Value → Prop
 | 0, d, v => (∃ i t, d = .int i ∧ v = .int i t) ∨ ∃ x t, d = .str x ∧ v = .str x t ∧ PyData.canLay0 (.str x) = true
 | n + 1, d, v => ((∃ i t, d = .int i ∧ v = .int i t) ∨ ∃ x t, d = .str x ∧ v = .str x t ∧ PyData.canLay0 (.str x) = true) ∨ ∃ ds q ob its m, d = .tup ds ∧ v = .ref q ∧ hp.get? q = some ob ∧ ob.cls = .type "tuple" ∧ ob.data = .seq its m ∧ Paired (IsN hp n) ds its.toList
noncomputable def drawD : Nat → D → Nat
 | n + 1, .tup ds => (ds.map (drawD n)).sum + 1
 | _, _ => 1
theorem isN_inj {hp : Heap} : ∀ {n : Nat} {x y : D} {v : Value}, IsN hp n x v → IsN hp n y v → x = y
 | 0, x, y, v, h1, h2 => by
  rcases h1 with ⟨i, t, rfl, rfl⟩ | ⟨z, t, rfl, rfl, _⟩
  · rcases h2 with ⟨j, u, rfl, e⟩ | ⟨z, u, rfl, e, _⟩
    · cases e; rfl
    · cases e
  · rcases h2 with ⟨j, u, rfl, e⟩ | ⟨z', u, rfl, e, _⟩
    · cases e
    · cases e; rfl
 | n + 1, x, y, v, h1, h2 => by
  rcases h1 with (⟨i, t, rfl, rfl⟩ | ⟨z, t, rfl, rfl, _⟩) | ⟨ds, q, ob, its, m, rfl, rfl, e1, e2, e3, e4⟩
  · rcases h2 with (⟨j, u, rfl, e⟩ | ⟨z, u, rfl, e, _⟩) | ⟨ds, q, ob, its, m, rfl, e, _⟩
    · cases e; rfl
    · cases e
    · cases e
  · rcases h2 with (⟨j, u, rfl, e⟩ | ⟨z', u, rfl, e, _⟩) | ⟨ds, q, ob, its, m, rfl, e, _⟩
    · cases e
    · cases e; rfl
    · cases e
  · rcases h2 with (⟨j, u, rfl, e⟩ | ⟨z, u, rfl, e, _⟩) | ⟨ds2, q2, ob2, its2, m2, rfl, e, f1, f2, f3, f4⟩
    · cases e
    · cases e
    · cases e
      rw [e1] at f1; cases f1
      rw [e3] at f3; cases f3
      have : ds = ds2 := by
       clear e1 e2 e3 f2
       generalize its.toList = l at e4 f4
       induction e4 generalizing ds2 with
       | nil => cases f4; rfl
       | cons p t ih =>
        cases f4 with
        | cons p2 t2 => rw [isN_inj p p2, ih _ t2]
      rw [this]
theorem isN_keep {hp h' : Heap} (hk : ∀ q ob its m, hp.get? q = some ob → ob.data = .seq its m → h'.get? q = some ob) : ∀ {n : Nat} {x : D} {v : Value}, IsN hp n x v → IsN h' n x v
 | 0, x, v, h => h
 | n + 1, x, v, h => by
  rcases h with h | ⟨ds, q, ob, its, m, rfl, rfl, e1, e2, e3, e4⟩
  · exact .inl h
  · refine .inr ⟨ds, q, ob, its, m, rfl, rfl, hk q ob its m e1 e3, e2, e3, ?_⟩
    clear e3
    generalize its.toList = l at e4 ⊢
    induction e4 with
    | nil => exact .nil
    | cons p t ih => exact .cons (isN_keep hk p) ih
section
variable {prog : Program} {w : World}
theorem hashN : ∀ (n : Nat) (d : D) (v : Value) (A : Around) (E : Value → Shared → Prop) (s : Shared) (Q : Int → Shared → Prop), A.units + n < cLine → IsN s.heap n d v → Q (hashD w n d) { s with toks := s.toks + drawD n d } → wpAny (model prog w) A (pyHash v) Q E s := by
 have flat : ∀ (n : Nat) (d : D) (v : Value) (A : Around) (E : Value → Shared → Prop) (s : Shared) (Q : Int → Shared → Prop), ((∃ i t, d = .int i ∧ v = .int i t) ∨ ∃ x t, d = .str x ∧ v = .str x t ∧ PyData.canLay0 (.str x) = true) → Q (hashD w n d) { s with toks := s.toks + drawD n d } → wpAny (model prog w) A (pyHash v) Q E s := by
  intro n d v A E s Q h q
  rcases h with ⟨i, t, rfl, rfl⟩ | ⟨x, t, rfl, rfl, _⟩
  · exact wpAny_pyHash_int (by cases n <;> exact q)
  · exact wpAny_pyHash_str (by cases n <;> exact q)
 intro n
 induction n with
 | zero => intro d v A E s Q _ h q; exact flat 0 d v A E s Q h q
 | succ n ih =>
  intro d v A E s Q hu h q
  rcases h with h | ⟨ds, p, ob, its, m, rfl, rfl, e1, e2, e3, e4⟩
  · exact flat (n + 1) d v A E s Q h q
  · have tt : s.TypeIs (.ref p) "tuple" := ⟨ob, e1, e2⟩
    unfold pyHash
    first | unfold pyHashByItsType | skip
    first | refine wpAny_bind (wpAny_cRoomFor_or (.inr (by omega)) ?_) | skip
    refine wpAny_bind (wpAny_specialOf tt F.slot_tuple_hash.lookup (?_ : wpAny _ _ (if (some (Value.builtin "tuple.__hash__") == some Value.none) = true then _ else _) Q E s))
    rw [if_neg (by rw [beq_builtin_none]; exact Bool.false_ne_true)]
    refine wpAny_bind (wpAny_specialOf tt F.slot_tuple_hash.lookup (?_ : wpAny _ _ (callSpecialIfBoundUnlessNone? (.ref p) "__hash__" _ >>= _) Q E s))
    refine wpAny_bind (wpAny_callSpecialIfBoundUnlessNone?_slot tt F.slot_tuple_hash (wpAny_call_entry F.slot_tuple_hash tt F.entry_tuple_hash (?_ : wpAny _ _ (Builtin.Tuple.tupleItemsOf (.ref p) >>= _) _ _ s) (F.args_tuple_hash_1 _)))
    refine wpAny_bind (wpAny_tupleItemsOf e1 e3 (wpAny_bind ?_))
    rw [← Array.forIn_toList]
    refine wpAny_forIn_list _ (fun rest (b : Array Int) s' => ∃ pre post, ds = pre ++ post ∧ Paired (IsN s.heap n) post rest ∧ b.toList = pre.map (hashD w n) ∧ s' = { s with toks := s.toks + (pre.map (drawD n)).sum }) _ ?_ ?_ _ _ ⟨[], ds, rfl, e4, rfl, by simp⟩
    · rintro x rest b s' ⟨pre, post, rfl, hp, hb, rfl⟩
      cases hp with
      | @cons d1 _ post' _ h1 h2 =>
       refine wpAny_bind (ih d1 x _ _ _ _ (by show A.units + 1 + n < cLine; omega) h1 ?_)
       have fin : ∃ pre2 post2, pre ++ d1 :: post' = pre2 ++ post2 ∧ Paired (IsN s.heap n) post2 rest ∧ (b.push (hashD w n d1)).toList = pre2.map (hashD w n) ∧ ({ s with toks := s.toks + (pre.map (drawD n)).sum + drawD n d1 } : Shared) = { s with toks := s.toks + (pre2.map (drawD n)).sum } :=
        ⟨pre ++ [d1], post', by simp, h2, by simp [hb], by simp [Nat.add_assoc]⟩
       first
        | exact wpAny_pure fin
        | exact wpAny_bind (wpAny_pure (wpAny_pure fin))
    · rintro b s' ⟨pre, post, rfl, hp, hb, rfl⟩
      cases hp
      rw [List.append_nil] at q
      refine (?_ : wpAny _ _ (retInt (Builtin.Tuple.tupleHashOf b.toList)) _ _ _)
      rw [hb]
      refine wpAny_ret_mkInt (?_ : wpAny _ _ (if (decide (-(2 : Int) ^ 63 ≤ Builtin.Tuple.tupleHashOf (pre.map (hashD w n))) && decide (Builtin.Tuple.tupleHashOf (pre.map (hashD w n)) < 2 ^ 63)) = true then _ else _) Q E _)
      simp only [hashD, drawD] at q
      unfold reduceHash at q
      by_cases hr : (decide (-(2 : Int) ^ 63 ≤ Builtin.Tuple.tupleHashOf (pre.map (hashD w n))) && decide (Builtin.Tuple.tupleHashOf (pre.map (hashD w n)) < 2 ^ 63)) = true
      · rw [if_pos hr] at q ⊢
        exact wpAny_pure (by simpa [Nat.add_assoc] using q)
      · rw [if_neg hr] at q ⊢
        exact wpAny_bind (wpAny_rule (wpAny_pure (by simpa [Nat.add_assoc] using q)))
noncomputable def pyN : Nat → D → PyData
 | _, .int i => .int i
 | _, .str x => .str x
 | n + 1, .tup ds => .tuple (ds.map (pyN n))
 | _, _ => .none
theorem readsN {hp : Heap} : ∀ {n : Nat} {d : D} {v : Value}, IsN hp n d v → (∃ as, Reads hp v (pyN n d) as) ∧ (pyN n d).canLay0 = true ∧ (pyN n d).depth ≤ n := by
 have flat : ∀ {n : Nat} {d : D} {v : Value}, ((∃ i t, d = .int i ∧ v = .int i t) ∨ ∃ x t, d = .str x ∧ v = .str x t ∧ PyData.canLay0 (.str x) = true) → (∃ as, Reads hp v (pyN n d) as) ∧ (pyN n d).canLay0 = true ∧ (pyN n d).depth ≤ n := by
  intro n d v h
  rcases h with ⟨i, t, rfl, rfl⟩ | ⟨x, t, rfl, rfl, hx⟩
  · cases n <;> exact ⟨⟨_, .int i t⟩, rfl, Nat.zero_le _⟩
  · cases n <;> exact ⟨⟨_, .str x t⟩, hx, Nat.zero_le _⟩
 intro n
 induction n with
 | zero => intro d v h; exact flat h
 | succ n ih =>
  intro d v h
  rcases h with h | ⟨ds, q, ob, its, m, rfl, rfl, e1, e2, e3, e4⟩
  · exact flat h
  · have all : ∀ {ds : List D} {l : List Value}, Paired (IsN hp n) ds l → (∃ as, ReadsAll hp l (ds.map (pyN n)) as) ∧ PyData.canLayAll0 (ds.map (pyN n)) = true ∧ PyData.depthAll (ds.map (pyN n)) ≤ n := by
     intro ds l h
     induction h with
     | nil => exact ⟨⟨[], .nil⟩, rfl, Nat.zero_le _⟩
     | cons p t ih2 =>
      obtain ⟨⟨as, r1⟩, c1, d1⟩ := ih p
      obtain ⟨⟨bs, r2⟩, c2, d2⟩ := ih2
      exact ⟨⟨as ++ bs, .cons r1 r2⟩, by simp only [List.map_cons, PyData.canLayAll0, c1, c2, Bool.and_self], by simp only [List.map_cons, PyData.depthAll]; exact Nat.max_le.mpr ⟨d1, d2⟩⟩
    obtain ⟨⟨as, r⟩, c, dp⟩ := all e4
    exact ⟨⟨_, .tuple e1 e2 e3 r⟩, c, by simp only [pyN, PyData.depth]; omega⟩
theorem eqvN {hp : Heap} : ∀ {n : Nat} {x y : D} {u v : Value}, IsN hp n x u → IsN hp n y v → PyData.eqv (pyN n x) (pyN n y) = decide (x = y) := by
 intro n
 induction n with
 | zero =>
  intro x y u v h1 h2
  rcases h1 with ⟨i, t, rfl, rfl⟩ | ⟨z, t, rfl, rfl, _⟩ <;> rcases h2 with ⟨j, t', rfl, rfl⟩ | ⟨z', t', rfl, rfl, _⟩ <;> simp [pyN, PyData.eqv] <;> (first | rfl | exact Bool.beq_eq_decide_eq _ _)
 | succ n ih =>
  intro x y u v h1 h2
  rcases h1 with (⟨i, t, rfl, rfl⟩ | ⟨z, t, rfl, rfl, _⟩) | ⟨ds, q, ob, its, m, rfl, rfl, e1, e2, e3, e4⟩ <;> rcases h2 with (⟨j, t', rfl, rfl⟩ | ⟨z', t', rfl, rfl, _⟩) | ⟨ds2, q2, ob2, its2, m2, rfl, rfl, f1, f2, f3, f4⟩
  · simp [pyN, PyData.eqv] <;> rfl
  · simp [pyN, PyData.eqv]
  · simp [pyN, PyData.eqv]
  · simp [pyN, PyData.eqv]
  · simp [pyN, PyData.eqv] <;> rfl
  · simp [pyN, PyData.eqv]
  · simp [pyN, PyData.eqv]
  · simp [pyN, PyData.eqv]
  · have all : ∀ {ds ds2 : List D} {l l2 : List Value}, Paired (IsN hp n) ds l → Paired (IsN hp n) ds2 l2 → PyData.eqvAll (ds.map (pyN n)) (ds2.map (pyN n)) = decide (ds = ds2) := by
     intro ds ds2 l l2 h
     induction h generalizing ds2 l2 with
     | nil => intro h2; cases h2 <;> simp [PyData.eqvAll]
     | @cons a b r r2 p t ih2 =>
      intro h2
      cases h2 with
      | nil => simp [PyData.eqvAll]
      | cons p2 t2 =>
       simp only [List.map_cons, PyData.eqvAll, ih p p2, ih2 t2, List.cons.injEq, Bool.decide_and]
    simp only [pyN, PyData.eqv, all e4 f4]
    simp
end
section
variable {prog : Program} {w : World}
theorem quietN : ∀ (n m : Nat) (d : D) (v : Value) (A : Around) (E : Value → Shared → Prop) (s : Shared) (Q : Bool → Shared → Prop), n ≤ m → IsN s.heap n d v → Q true s → wpAny (model prog w) A (eqIsQuiet m v) Q E s := by
 have flat : ∀ (m : Nat) (d : D) (v : Value) (A : Around) (E : Value → Shared → Prop) (s : Shared) (Q : Bool → Shared → Prop), ((∃ i t, d = .int i ∧ v = .int i t) ∨ ∃ x t, d = .str x ∧ v = .str x t ∧ PyData.canLay0 (.str x) = true) → Q true s → wpAny (model prog w) A (eqIsQuiet m v) Q E s := by
  intro m d v A E s Q h q
  rcases h with ⟨i, t, rfl, rfl⟩ | ⟨x, t, rfl, rfl, _⟩
  · rw [eqIsQuiet_byValue m (v := .int i t) rfl]; exact wpAny_pure q
  · rw [eqIsQuiet_byValue m (v := .str x t) rfl]; exact wpAny_pure q
 intro n
 induction n with
 | zero => intro m d v A E s Q _ h q; exact flat m d v A E s Q h q
 | succ n ih =>
  intro m d v A E s Q hm h q
  rcases h with h | ⟨ds, p, ob, its, k, rfl, rfl, e1, e2, e3, e4⟩
  · exact flat m d v A E s Q h q
  · obtain ⟨m, rfl⟩ : ∃ j, m = j + 1 := ⟨m - 1, by omega⟩
    have tt : s.TypeIs (.ref p) "tuple" := ⟨ob, e1, e2⟩
    unfold eqIsQuiet
    refine wpAny_bind (wpAny_specialOf tt F.slot_tuple_eq.lookup (?_ : wpAny _ _ (isInstance (.ref p) (.type "tuple") >>= _) _ _ s))
    refine wpAny_bind (wpAny_isInstance tt isSubtype_tuple_tuple ?_)
    simp only [Bool.not_true, Bool.false_eq_true, if_false]
    refine wpAny_bind (wpAny_seqItems e1 e3 (wpAny_bind (?_ : wpAny _ _ (forIn its _ _) _ _ s)))
    rw [← Array.forIn_toList]
    refine wpAny_forIn_list _ (fun rest r s' => r.1 = none ∧ s' = s ∧ ∃ post, Paired (IsN s.heap n) post rest) _ ?_ ?_ _ _ ⟨rfl, rfl, ds, e4⟩
    · rintro x rest r s' ⟨hr, rfl, post, hp⟩
      cases hp with
      | @cons d1 _ post' _ h1 h2 =>
       refine wpAny_bind (ih m d1 x _ _ _ _ (by omega) h1 ?_)
       simp only [Bool.not_true, Bool.false_eq_true, if_false]
       exact wpAny_pure ⟨rfl, rfl, post', h2⟩
    · rintro ⟨r1, r2⟩ s' ⟨hr, rfl, _⟩
      obtain rfl : r1 = none := hr
      exact wpAny_pure q
noncomputable def nestKind (prog : Program) (w : World) : HeapKind prog w D where
 is := fun hp d q => IsN hp 8 d (.ref q)
 hash := hashD w 8
 draws := drawD 8
 room := fun A => A.units + 16 < cLine
 inj := fun h1 h2 => isN_inj h1 h2
 keeps := fun {hp h' k q dd o es ep} h ho hd hs => isN_keep (fun q ob its m e c => (hs.2 q (by
  rintro rfl
  rw [ho] at e; cases e
  rw [hd] at c; cases c)).trans e) h
 pyHash := fun hu h q => hashN 8 _ _ _ _ _ _ (by omega) h q
 eqBool := fun {A E s x y a b Q} hu h1 h2 q => by
  obtain ⟨⟨as, r1⟩, c1, d1⟩ := readsN h1
  obtain ⟨⟨bs, r2⟩, c2, d2⟩ := readsN h2
  refine PySem.SeqAt.eqBoolOverData prog w A E s _ _ _ _ as bs Q r1 r2 c1 c2 ?_ (by rw [eqvN h1 h2]; exact q)
  have : min (pyN 8 x).depth (pyN 8 y).depth ≤ 8 := Nat.le_trans (Nat.min_le_left _ _) d1
  omega
 quiet := fun h q => quietN 8 8 _ _ _ _ _ _ (Nat.le_refl _) h q
end
end DD
namespace DD
open PySem PySem.Spec L2
open PyProof.Rows hiding St RelV
variable {g : G} {X : Cx} {pos apos cpos : Pos} {F : Nat} {a b c : Expr} {a' b' c' : E}
theorem rep_isN_of (hK : X.K = g.K) {pins : List (Addr × Obj)} {sg : L2.St} {H : Hp} {s : Shared} {rho : List Addr} (I : Inv X pins sg H s) : ∀ (n : Nat) (d : D) (v : V) (u : Value), g.Rep rho H d v → RelV v u → okN n d = true → IsN s.heap n d u := by
 have flat : ∀ (n : Nat) (d : D) (v : V) (u : Value), g.Rep rho H d v → RelV v u → okN n d = true → (∀ ds, d ≠ .tup ds) → ((∃ i t, d = .int i ∧ u = .int i t) ∨ ∃ x t, d = .str x ∧ u = .str x t ∧ PyData.canLay0 (.str x) = true) := by
  intro n d v u r rv ok nt
  cases d with
  | int i => cases rep_int.mp r; obtain ⟨t, rfl⟩ := rv; exact .inl ⟨i, t, rfl, rfl⟩
  | str x => cases rep_str.mp r; obtain ⟨t, rfl⟩ := rv; exact .inr ⟨x, t, rfl, rfl, by cases n <;> exact ok⟩
  | tup ds => exact (nt ds rfl).elim
  | _ => cases n <;> simp [okN] at ok
 intro n
 induction n with
 | zero =>
  intro d v u r rv ok
  refine flat 0 d v u r rv ok fun ds z => ?_
  subst z; simp [okN] at ok
 | succ n ih =>
  intro d v u r rv ok
  by_cases ht : ∃ ds, d = .tup ds
  · obtain ⟨ds, rfl⟩ := ht
    obtain ⟨q, vs, rfl, sq, rl⟩ := rep_tup.mp r
    rw [← hK] at sq
    obtain ⟨its, rvs, pl, hz⟩ := I.tuple sq
    obtain ⟨ob, ho, hc, m, hd⟩ := pl
    cases rv
    refine .inr ⟨ds, q, ob, its.toArray, m, rfl, rfl, ho, hc, hd, ?_⟩
    have ok : ds.all (okN n) = true := by simpa [okN] using ok
    clear hd ho hc sq hz r
    have all : ∀ {ds : List D} {vs : List V} {its : List Value}, g.RepL rho H ds vs → Vals vs its → ds.all (okN n) = true → Paired (IsN s.heap n) ds its := by
     intro ds
     induction ds with
     | nil => intro vs its r q _; simp only [RepL] at r; subst r; cases q; exact .nil
     | cons x t ih2 =>
      intro vs its r q ok
      simp only [RepL] at r
      obtain ⟨v, w, rfl, r1, r2⟩ := r
      simp only [List.all_cons, Bool.and_eq_true] at ok
      cases q with
      | cons q1 q2 => exact .cons (ih x v _ r1 q1 ok.1) (ih2 r2 q2 ok.2)
    simpa using all rl rvs ok
  · exact .inl (flat (n + 1) d v u r rv ok fun ds z => ht ⟨ds, z⟩)
theorem nd_of (hK : X.K = g.K) (hw : g.cls.w = X.w) {pins : List (Addr × Obj)} {sg : L2.St} {H : Hp} {s : Shared} {rho : List Addr} {p : Addr} {kvs : List (D × D)} {xs : List (D × Addr × V)} (I : Inv X pins sg H s) (hH : H p = some (.ext (NDict g.cls.w p xs))) (nv : NvRep g.K rho H kvs xs) :
    (p == sysModules) = false ∧ xs.length ≤ sizeLine ∧ ∃ ys : List (D × Addr × Value), Paired (fun (x : D × Addr × V) (y : D × Addr × Value) => x.1 = y.1 ∧ x.2.1 = y.2.1 ∧ RelV x.2.2 y.2.2) xs ys ∧ s.heap.DictOfH (nestKind X.prog X.w) p ys := by
  obtain ⟨⟨h1, h2, h3, o, es, ep, h4, h5, h6, h7⟩, h8⟩ := (show ObjOk X.prog X.w H s.heap p (.ext _) from I.hok p _ hH)
  refine ⟨h1, h2, ?_⟩
  have keys : ∀ x ∈ xs, IsN s.heap 8 x.1 (.ref x.2.1) := by
    clear h8 h7 h3 h2 hH
    induction xs generalizing kvs with
    | nil => intro x hx; cases hx
    | cons y t ih =>
      cases kvs with
      | nil => simp only [NvRep] at nv; cases nv
      | cons kd r =>
        obtain ⟨k, d⟩ := kd
        simp only [NvRep] at nv
        obtain ⟨b, v, t2, e, kn, r1, _, q⟩ := nv
        cases e
        intro x hx
        rcases List.mem_cons.mp hx with rfl | hx
        · refine rep_isN_of hK I 8 _ _ _ r1 rfl ?_
          cases k with
          | tup ds => exact kn
          | _ => cases kn
        · exact ih q x hx
  have mk : ∀ {xs : List (D × Addr × V)} {l : List DictEntry}, Paired (fun (x : D × Addr × V) (e : DictEntry) => e.hash = hashD g.cls.w 8 x.1 ∧ e.key = .ref x.2.1 ∧ RelV x.2.2 e.val) xs l → ∃ ys : List (D × Addr × Value), Paired (fun (x : D × Addr × V) (y : D × Addr × Value) => x.1 = y.1 ∧ x.2.1 = y.2.1 ∧ RelV x.2.2 y.2.2) xs ys ∧ l = ys.map (entryOfKey (nestKind X.prog X.w)) ∧ ys.map (·.1) = xs.map (·.1) := by
    intro xs l h
    induction h with
    | nil => exact ⟨[], .nil, rfl, rfl⟩
    | @cons x e t r p q ih =>
      obtain ⟨ys, e1, e2, e3⟩ := ih
      obtain ⟨hh, hk, hv⟩ := p
      refine ⟨(x.1, x.2.1, e.val) :: ys, .cons ⟨rfl, rfl, hv⟩ e1, ?_, by simp [e3]⟩
      rw [List.map_cons, e2]
      congr 1
      obtain ⟨eh, ek, ev⟩ := e
      simp only at hh hk
      subst hh hk
      rw [hw]; rfl
  obtain ⟨ys, e1, e2, e3⟩ := mk h7
  refine ⟨ys, e1, o, es, ep, h4, h5, h6, e2, ?_, by rw [e3]; exact h3⟩
  have : ∀ {xs : List (D × Addr × V)} {ys : List (D × Addr × Value)}, Paired (fun (x : D × Addr × V) (y : D × Addr × Value) => x.1 = y.1 ∧ x.2.1 = y.2.1 ∧ RelV x.2.2 y.2.2) xs ys → (∀ x ∈ xs, IsN s.heap 8 x.1 (.ref x.2.1)) → ∀ y ∈ ys, (nestKind X.prog X.w).is s.heap y.1 y.2.1 := by
    intro xs ys h
    induction h with
    | nil => intro _ y hy; cases hy
    | @cons x y t r p q ih =>
      intro hx z hz
      rcases List.mem_cons.mp hz with rfl | hz
      · have := hx x List.mem_cons_self
        rw [p.1, p.2.1] at this
        exact this
      · exact ih (fun x h => hx x (List.mem_cons_of_mem _ h)) z hz
  exact this e1 keys
theorem nv_look {rho : List Addr} {H : Hp} {k : D} : ∀ {kvs : List (D × D)} {xs : List (D × Addr × V)} {ys : List (D × Addr × Value)}, NvRep g.K rho H kvs xs → Paired (fun (x : D × Addr × V) (y : D × Addr × Value) => x.1 = y.1 ∧ x.2.1 = y.2.1 ∧ RelV x.2.2 y.2.2) xs ys →
    (∀ d, dLook kvs k = some d → ∃ q v u, atKey ys k = some (q, u) ∧ RelV v u ∧ g.Rep rho H d v) ∧ (dLook kvs k = none → atKey ys k = none)
  | [], xs, ys, h, p => by
    simp only [NvRep] at h; subst h
    cases p
    exact ⟨fun d e => by simp [dLook] at e, fun _ => rfl⟩
  | (x, d) :: r, xs, ys, h, p => by
    simp only [NvRep] at h
    obtain ⟨b, v, t, rfl, _, _, rd, q⟩ := h
    cases p with
    | @cons _ y _ t2 p1 p2 =>
      obtain ⟨y1, y2, y3⟩ := y
      obtain ⟨e1, e2, e3⟩ := p1
      simp only at e1 e2 e3
      subst e1 e2
      by_cases e : x = k
      · subst e
        refine ⟨fun d' ed => ⟨b, v, y3, by simp [atKey], e3, ?_⟩, fun en => by simp [dLook] at en⟩
        simp [dLook] at ed; subst ed; exact rd
      · obtain ⟨l1, l2⟩ := nv_look (k := k) q p2
        refine ⟨fun d' ed => ?_, fun en => ?_⟩
        · obtain ⟨q', v', u', h1, h2, h3⟩ := l1 d' (by simpa [dLook, e] using ed)
          exact ⟨q', v', u', by simpa [atKey, e] using h1, h2, h3⟩
        · have := l2 (by simpa [dLook, e] using en)
          simpa [atKey, e] using this
end DD
namespace DD
open PySem PySem.Spec L2
variable {g : G} {X : Cx} {a b c : Expr} {a' b' c' : E} {pos : Pos}
theorem cm_bl {k : Cm} {x y : D} {st st' : Sto} {d : D} (h : cmD k x y st = .ok d st') : ∃ b, d = .bl b := by
 cases k <;> simp only [cmD] at h <;> (repeat' (split at h)) <;> first | (cases h; exact ⟨_, rfl⟩) | cases h
theorem cmT {k : Cm} {sg : L2.St} {H : Hp} {Q : Bool → Hp → Prop} (q : tT g (.cm k a' b') sg H Q) : tE g (.cm k a' b') sg H (fun x H' => ∃ z, x = .bl z ∧ Q z H') := by
 obtain ⟨rho, st, env, s, n, q⟩ := q
 refine ⟨rho, st, env, s, n, ?_⟩
 simp only [evalT] at q
 simp only [evalE]
 revert q
 cases evalE g.tab g.call a' env st with
 | bad => exact fun q => q
 | exc c st1 => exact fun q => q
 | ok x st1 =>
  simp only [bind_ok]
  cases evalE g.tab g.call b' env st1 with
  | bad => exact fun q => q
  | exc c st2 => exact fun q => q
  | ok y st2 =>
   simp only [bind_ok]
   cases e : cmD k x y st2 with
   | bad => exact fun q => q
   | exc c st3 => exact fun q => q
   | ok d st3 =>
    obtain ⟨z, rfl⟩ := cm_bl e
    simp only [bind_ok]
    intro q v H' rho' k1 s1 r1
    exact ⟨z, rep_bl.mp r1, (show PostB g rho H Q z st3 from q) H' rho' k1 s1⟩
theorem im_eq  {sg : L2.St} {H : Hp} {Q : VK} (q : tE g (.cm .eq a' b') sg H Q) : tOp (rEqD g false) (tE g a') (tE g b') sg H Q := by
 obtain ⟨rho, st, env, s, n, q⟩ := q
 simp only [evalE] at q
 refine two (k := cmD .eq) ?_ s n q
 intro x y u v st rho H Q s rx ry q
 simp only [cmD] at q
 cases e : eqV st x y with
 | none => rw [e] at q; exact q.elim
 | some z =>
  rw [e] at q
  obtain ⟨p1, p2, h1, h2, rfl⟩ := eqV_some e
  exact ⟨rho, st, x, y, p1, p2, s, rx, ry, h1, h2, (show Post g rho H Q (.bl _) st from q) _ H rho (.refl _ _) s (rep_bl.mpr rfl)⟩
theorem sdt_eq (hK : X.K = g.K) (hu : X.A.units + 64 < cLine) (ha : Sd g X a a') (hb : Sd g X b b') : SdT g X (.Compare a [.Eq] [b] pos) (.cm .eq a' b') := pt_imp (pt_cmpR (op_eqD hK hu) ha hb (nomark _)) fun sg H Q q => im_eq (cmT q)
theorem im_ne  {sg : L2.St} {H : Hp} {Q : VK} (q : tE g (.cm .ne a' b') sg H Q) : tOp (rEqD g true) (tE g a') (tE g b') sg H Q := by
 obtain ⟨rho, st, env, s, n, q⟩ := q
 simp only [evalE] at q
 refine two (k := cmD .ne) ?_ s n q
 intro x y u v st rho H Q s rx ry q
 simp only [cmD] at q
 cases e : eqV st x y with
 | none => rw [e] at q; exact q.elim
 | some z =>
  rw [e] at q
  obtain ⟨p1, p2, h1, h2, rfl⟩ := eqV_some e
  exact ⟨rho, st, x, y, p1, p2, s, rx, ry, h1, h2, (show Post g rho H Q (.bl _) st from q) _ H rho (.refl _ _) s (rep_bl.mpr rfl)⟩
theorem sdt_ne (hK : X.K = g.K) (hu : X.A.units + 64 < cLine) (ha : Sd g X a a') (hb : Sd g X b b') : SdT g X (.Compare a [.NotEq] [b] pos) (.cm .ne a' b') := pt_imp (pt_cmpR (op_neD hK hu) ha hb (nomark _)) fun sg H Q q => im_ne (cmT q)
theorem ints2 {r : Int → Int → Bool} {k : Cm} (hk : ∀ x y st, cmD k x y st = match x, y with | .int i, .int j => .ok (.bl (r i j)) st | _, _ => .bad) {sg : L2.St} {H : Hp} {Q : VK}
    (q : tE g (.cm k a' b') sg H Q) : tOp (rI0 fun i j => .bl (r i j)) (tE g a') (tE g b') sg H Q := by
  obtain ⟨rho, st, env, s, n, q⟩ := q
  simp only [evalE] at q
  refine two (k := cmD k) ?_ s n q
  intro x y u v st rho H Q s rx ry q
  rw [hk] at q
  cases x with
  | int i =>
    cases y with
    | int j => exact ⟨i, j, rep_int.mp rx, rep_int.mp ry, q _ H rho (.refl _ _) s (rep_bl.mpr rfl)⟩
    | _ => exact q.elim
  | _ => exact q.elim
theorem sdt_lt (ha : Sd g X a a') (hb : Sd g X b b') : SdT g X (.Compare a [.Lt] [b] pos) (.cm .lt a' b') := pt_imp (pt_cmpR op_lt ha hb (nomark _)) fun sg H Q q => ints2 (fun x y st => by cases x <;> cases y <;> rfl) (cmT q)
theorem sdt_gt (ha : Sd g X a a') (hb : Sd g X b b') : SdT g X (.Compare a [.Gt] [b] pos) (.cm .gt a' b') := pt_imp (pt_cmpR op_gt ha hb (nomark _)) fun sg H Q q => ints2 (fun x y st => by cases x <;> cases y <;> rfl) (cmT q)
theorem seq_of {rho : List Addr} {st : Sto} {H : Hp} (s : g.Sto rho st H) {d : D} {v : V} {ds : List D} (r : g.Rep rho H d v) (h : seqOf st d = some ds) : ∃ p vs, v = .ref p ∧ (SqL g.K H p vs ∨ SqT g.K H p vs) ∧ g.RepL rho H ds vs := by
 cases d with
 | tup xs =>
  simp only [seqOf] at h; cases h
  obtain ⟨p, vs, e, q, rl⟩ := rep_tup.mp r
  exact ⟨p, vs, e, .inr q, rl⟩
 | loc n =>
  simp only [seqOf] at h
  obtain ⟨p, vs, h1, q, rl⟩ := sto_seq s h
  obtain ⟨p2, h2, e⟩ := rep_loc.mp r
  rw [h1] at h2; cases h2
  exact ⟨p, vs, e, .inl q, rl⟩
 | _ => cases h
theorem kD_inj {a b : D} {k : Key} (h : kD a = some k) (h2 : kD b = some k) : a = b := by
 cases a <;> cases b <;> simp only [kD, Option.some.injEq, reduceCtorEq] at h h2 <;> first | (rw [← h] at h2; cases h2; rfl) | (rw [← h] at h2; cases h2)
theorem kD_key {a : D} (h : keyD a = true) : ∃ k, kD a = some k := by
 cases a <;> simp [keyD] at h <;> exact ⟨_, rfl⟩
theorem rep_kD {rho : List Addr} {H : Hp} {a : D} {v : V} {k : Key} (r : g.Rep rho H a v) (h : kD a = some k) : v = kV k := by
 cases a with
 | int i => cases rep_int.mp r; cases h; rfl
 | str x => cases rep_str.mp r; cases h; rfl
 | _ => cases h
theorem kv_look {rho : List Addr} {H : Hp} {a : D} {k : Key} (ha : kD a = some k) : ∀ {kvs : List (D × D)} {ws : List (Key × V)}, KvRep g.K rho H kvs ws →
    (∀ x, dLook kvs a = some x → ∃ v, valV ws k = some v ∧ g.Rep rho H x v) ∧ (dLook kvs a = none → valV ws k = none)
  | [], ws, h => by
    simp only [KvRep] at h; subst h
    exact ⟨fun x e => by simp [dLook] at e, fun _ => rfl⟩
  | (b, d) :: r, ws, h => by
    simp only [KvRep] at h
    obtain ⟨k', v, t, rfl, hk, rp, rest⟩ := h
    by_cases e : b = a
    · subst e
      rw [ha] at hk; cases hk
      refine ⟨fun x ex => ⟨v, by simp [valV], ?_⟩, fun en => by simp [dLook] at en⟩
      simp [dLook] at ex; subst ex; exact rp
    · have hkk : k' ≠ k := fun z => e (kD_inj (by rw [hk, z]) ha)
      obtain ⟨h1, h2⟩ := kv_look ha rest
      refine ⟨fun x ex => ?_, fun en => ?_⟩
      · obtain ⟨v', e1, e2⟩ := h1 x (by simpa [dLook, e] using ex)
        exact ⟨v', by simpa [valV, hkk] using e1, e2⟩
      · have := h2 (by simpa [dLook, e] using en)
        simpa [valV, hkk] using this
theorem sto_dct {rho : List Addr} {st : Sto} {H : Hp} {n : Nat} {kvs : List (D × D)} (s : g.Sto rho st H) (h : dctOf st n = some kvs) : ∃ a ws, rho[n]? = some a ∧ st[n]? = some (.dct kvs) ∧ H a = some (.dK ws) ∧ KvRep g.K rho H kvs ws := by
 unfold dctOf at h
 split at h
 · rename_i kvs' e
   cases h
   have hl : n < rho.length := by rw [s.len]; exact (List.getElem?_eq_some_iff.mp e).1
   obtain ⟨ws, h1, h2⟩ := s.cells n rho[n] _ (List.getElem?_eq_getElem hl) e
   exact ⟨rho[n], ws, List.getElem?_eq_getElem hl, e, h1, h2⟩
 · cases h
theorem sto_dcn {rho : List Addr} {st : Sto} {H : Hp} {n : Nat} {kvs : List (D × D)} (s : g.Sto rho st H) (h : dcnOf st n = some kvs) : ∃ a xs, rho[n]? = some a ∧ st[n]? = some (.dcn kvs) ∧ H a = some (.ext (NDict g.cls.w a xs)) ∧ NvRep g.K rho H kvs xs := by
 unfold dcnOf at h
 split at h
 · rename_i kvs' e
   cases h
   have hl : n < rho.length := by rw [s.len]; exact (List.getElem?_eq_some_iff.mp e).1
   obtain ⟨xs, h1, h2⟩ := s.cells n rho[n] _ (List.getElem?_eq_getElem hl) e
   exact ⟨rho[n], xs, List.getElem?_eq_getElem hl, e, h1, h2⟩
 · cases h
theorem rep_keyN (hK : X.K = g.K) {pins : List (Addr × Obj)} {sg : L2.St} {H : Hp} {s : Shared} {rho : List Addr} {k : D} {v : V} {u : Value} (I : Inv X pins sg H s) (r : g.Rep rho H k v) (hk : keyN k = true) (rv : RelV v u) : ∃ q, (nestKind X.prog X.w).is s.heap k q ∧ u = .ref q := by
 cases k with
 | tup ds =>
  have ik := rep_isN_of hK I 8 _ _ _ r rv hk
  obtain ⟨q, vs, rfl, _⟩ := rep_tup.mp r
  cases rv
  exact ⟨q, ik, rfl⟩
 | _ => cases hk
noncomputable def rInD (g : G) (neg : Bool) : R2 := fun x y H Q => ∃ rho st a b z, g.Sto rho st H ∧ g.Rep rho H a x ∧ g.Rep rho H b y ∧ inD st a b = some z ∧ Q (.bl (if neg then !z else z)) H
theorem inS_some {st : Sto} {a b : D} {z : Bool} (h : inS st a b = some z) : ∃ p ys, pyOf st 40 a = some p ∧ (pyOf st 41 b = some (.list ys) ∨ pyOf st 41 b = some (.tuple ys)) ∧ z = ys.any fun y => PyData.eqv y p := by
 unfold inS at h
 split at h
 · rename_i x ys e1 e2; cases h; exact ⟨x, ys, e1, .inl e2, rfl⟩
 · rename_i x ys e1 e2; cases h; exact ⟨x, ys, e1, .inr e2, rfl⟩
 · cases h
theorem units_min {A : Around} (hu : A.units + 64 < cLine) {a b : Nat} (hb : b ≤ 40) : A.units + 1 + min a b < cLine := by
 have : min a b ≤ b := Nat.min_le_right _ _
 omega
theorem op_inS (hK : X.K = g.K) (hu : X.A.units + 64 < cLine) {pins : List (Addr × Obj)} {s : Shared} {sg : L2.St} {H : Hp} {rho : List Addr} {st : Sto} {a b : D} {x y : V} {v u : Value} {z : Bool} {Q : VK} (I : Inv X pins sg H s) (S : g.Sto rho st H) (r1 : g.Rep rho H a x) (r2 : g.Rep rho H b y) (rx : RelV x v) (ry : RelV y u)
    (h : inS st a b = some z) : (Q (.bl z) H → wpAny (model X.prog X.w) X.A (compareOp .In v u) (EP X pins sg Q) X.xe s) ∧ (Q (.bl (!z)) H → wpAny (model X.prog X.w) X.A (compareOp .NotIn v u) (EP X pins sg Q) X.xe s) := by
  obtain ⟨p, ys, e1, e2, rfl⟩ := inS_some h
  obtain ⟨as, h1⟩ := reads hK I S 40 a x v p r1 rx e1
  obtain ⟨c1, c2⟩ := py_shape 40 a p e1
  rcases e2 with e2 | e2
  · obtain ⟨bs, h2⟩ := reads hK I S 41 b y u _ r2 ry e2
    obtain ⟨c3, c4⟩ := py_shape 41 b _ e2
    exact ⟨fun q => PySem.SeqAt.in_list_reads h2 h1 c3 c1 (units_min hu c2) ⟨.bl _, H, I, rfl, q⟩, fun q => PySem.SeqAt.notIn_list_reads h2 h1 c3 c1 (units_min hu c2) ⟨.bl _, H, I, rfl, q⟩⟩
  · obtain ⟨bs, h2⟩ := reads hK I S 41 b y u _ r2 ry e2
    obtain ⟨c3, c4⟩ := py_shape 41 b _ e2
    exact ⟨fun q => PySem.SeqAt.in_tuple_reads h2 h1 c3 c1 (units_min hu c2) ⟨.bl _, H, I, rfl, q⟩, fun q => PySem.SeqAt.notIn_tuple_reads h2 h1 c3 c1 (units_min hu c2) ⟨.bl _, H, I, rfl, q⟩⟩
theorem op_inAny (hK : X.K = g.K) (hw : g.cls.w = X.w) (hu : X.A.units + 64 < cLine) {pins : List (Addr × Obj)} {s : Shared} {sg : L2.St} {H : Hp} {rho : List Addr} {st : Sto} {a b : D} {x y : V} {v u : Value} {z : Bool} {Q : VK} (I : Inv X pins sg H s) (S : g.Sto rho st H) (r1 : g.Rep rho H a x) (r2 : g.Rep rho H b y) (rx : RelV x v) (ry : RelV y u)
    (h : inD st a b = some z) : (Q (.bl z) H → wpAny (model X.prog X.w) X.A (compareOp .In v u) (EP X pins sg Q) X.xe s) ∧ (Q (.bl (!z)) H → wpAny (model X.prog X.w) X.A (compareOp .NotIn v u) (EP X pins sg Q) X.xe s) := by
  cases b with
  | str t =>
    simp only [inD] at h
    cases a with
    | str w =>
      cases h
      cases rep_str.mp r1; cases rep_str.mp r2
      exact ⟨fun q => op_in_str pins s sg H _ _ v u Q I rx ry ⟨_, _, rfl, rfl, q⟩, fun q => op_notin_str pins s sg H _ _ v u Q I rx ry ⟨_, _, rfl, rfl, q⟩⟩
    | _ => cases h
  | loc n =>
    simp only [inD] at h
    cases e : dctOf st n with
    | none =>
      rw [e] at h
      simp only at h
      cases e9 : dcnOf st n with
      | none => rw [e9] at h; exact op_inS hK hu I S r1 r2 rx ry h
      | some kvs =>
        rw [e9] at h
        simp only at h
        split at h
        · rename_i hk
          cases h
          obtain ⟨p, xs, h1, _, h2, nv⟩ := sto_dcn S e9
          obtain ⟨p2, h4, rfl⟩ := rep_loc.mp r2
          rw [h1] at h4; cases h4
          obtain ⟨q9, ik, rfl⟩ := rep_keyN hK I r1 hk rx
          obtain rfl : u = Value.ref p := ry
          obtain ⟨hm, _, ys, pr, dd⟩ := nd_of hK hw I h2 nv
          have ev : (dLook kvs a).isSome = (atKey ys a).isSome := by
            obtain ⟨l1, l2⟩ := nv_look (k := a) nv pr
            cases z : dLook kvs a with
            | none => rw [l2 z]; rfl
            | some x => obtain ⟨_, _, _, e1, _⟩ := l1 x z; rw [e1]; rfl
          rw [ev]
          exact ⟨fun q => wpAny_in_heap (knd := nestKind X.prog X.w) (by show X.A.units + 1 + 16 < cLine; omega) ik hm dd ⟨.bl _, H, I.tok _, rfl, q⟩, fun q => PyProof.Rows.wpAny_notIn_heap (knd := nestKind X.prog X.w) (by show X.A.units + 1 + 16 < cLine; omega) ik hm dd ⟨.bl _, H, I.tok _, rfl, q⟩⟩
        · cases h
    | some kvs =>
      rw [e] at h
      simp only at h
      split at h
      · rename_i hk
        cases h
        obtain ⟨k, ek⟩ := kD_key hk
        obtain ⟨p, ws, h1, _, h2, h3⟩ := sto_dct S e
        obtain ⟨p2, h4, rfl⟩ := rep_loc.mp r2
        rw [h1] at h4; cases h4
        cases rep_kD r1 ek
        obtain rfl : u = Value.ref p := ry
        have ev : (dLook kvs a).isSome = (valV ws k).isSome := by
          obtain ⟨l1, l2⟩ := kv_look ek h3
          cases z : dLook kvs a with
          | none => rw [l2 z]; rfl
          | some x => obtain ⟨v, e1, _⟩ := l1 x z; rw [e1]; rfl
        rw [ev]
        exact ⟨fun q => d_in (by omega) I (DGet.k h2) rx fun s' I' => ⟨.bl _, H, I', rfl, q⟩, fun q => d_notIn (by omega) I (DGet.k h2) rx fun s' I' => ⟨.bl _, H, I', rfl, q⟩⟩
      · cases h
  | _ => exact op_inS hK hu I S r1 r2 rx ry h
theorem op_inD (hK : X.K = g.K) (hw : g.cls.w = X.w) (hu : X.A.units + 64 < cLine) : OpR X (compareOp .In) (rInD g false) := by
 rintro pins s sg H x y v u Q I rx ry ⟨rho, st, a, b, z, S, r1, r2, h, q⟩
 exact (op_inAny hK hw hu I S r1 r2 rx ry h).1 q
theorem op_notInD (hK : X.K = g.K) (hw : g.cls.w = X.w) (hu : X.A.units + 64 < cLine) : OpR X (compareOp .NotIn) (rInD g true) := by
 rintro pins s sg H x y v u Q I rx ry ⟨rho, st, a, b, z, S, r1, r2, h, q⟩
 exact (op_inAny hK hw hu I S r1 r2 rx ry h).2 q
theorem im_in {sg : L2.St} {H : Hp} {Q : VK} (q : tE g (.cm .inL a' b') sg H Q) : tOp (rInD g false) (tE g a') (tE g b') sg H Q := by
 obtain ⟨rho, st, env, s, n, q⟩ := q
 simp only [evalE] at q
 refine two (k := cmD .inL) ?_ s n q
 intro x y u v st rho H Q s rx ry q
 simp only [cmD] at q
 cases e : inD st x y with
 | none => rw [e] at q; exact q.elim
 | some z =>
  rw [e] at q
  exact ⟨rho, st, x, y, z, s, rx, ry, e, (show Post g rho H Q (.bl _) st from q) _ H rho (.refl _ _) s (rep_bl.mpr rfl)⟩
theorem im_notIn {sg : L2.St} {H : Hp} {Q : VK} (q : tE g (.cm .notIn a' b') sg H Q) : tOp (rInD g true) (tE g a') (tE g b') sg H Q := by
 obtain ⟨rho, st, env, s, n, q⟩ := q
 simp only [evalE] at q
 refine two (k := cmD .notIn) ?_ s n q
 intro x y u v st rho H Q s rx ry q
 simp only [cmD] at q
 cases e : inD st x y with
 | none => rw [e] at q; exact q.elim
 | some z =>
  rw [e] at q
  exact ⟨rho, st, x, y, z, s, rx, ry, e, (show Post g rho H Q (.bl _) st from q) _ H rho (.refl _ _) s (rep_bl.mpr rfl)⟩
theorem sdt_notIn (hK : X.K = g.K) (hw : g.cls.w = X.w) (hu : X.A.units + 64 < cLine) (ha : Sd g X a a') (hb : Sd g X b b') (hm : behindInMarks .NotIn b = false := by rfl) : SdT g X (.Compare a [.NotIn] [b] pos) (.cm .notIn a' b') := pt_imp (pt_cmpR (op_notInD hK hw hu) ha hb hm) fun sg H Q q => im_notIn (cmT q)
theorem sdt_in (hK : X.K = g.K) (hw : g.cls.w = X.w) (hu : X.A.units + 64 < cLine) (ha : Sd g X a a') (hb : Sd g X b b') (hm : behindInMarks .In b = false := by rfl) : SdT g X (.Compare a [.In] [b] pos) (.cm .inL a' b') := pt_imp (pt_cmpR (op_inD hK hw hu) ha hb hm) fun sg H Q q => im_in (cmT q)
theorem RepL_at {rho : List Addr} {H : Hp} {ds : List D} {vs : List V} {i : Int} {d : D} (r : g.RepL rho H ds vs) (h : atD ds i = some d) : ∃ v, atI vs i = some v ∧ g.Rep rho H d v := by
 unfold atD atI at h
 have hl := r.length
 cases e : ixN ds.length i with
 | none => rw [e] at h; cases h
 | some j =>
  rw [e] at h
  obtain ⟨v, e1, r1⟩ := r.get h
  refine ⟨v, ?_, r1⟩
  unfold atI
  rw [← hl, e]
  exact e1
theorem ix_dict (hu : X.A.units + 1 < cLine) : IxR X (fun x y H Q => ∃ a v, x = .ref a ∧ DGet H a y (some v) ∧ Q v H) := by
 intro value slice pins s sg H x y v u Q I rx ry h hs
 obtain ⟨a, w, rfl, gt, q⟩ := h
 obtain rfl : v = Value.ref a := rx
 have hT := dict_typeIs I gt
 exact PyProof.Rows.tail_any hT PySem.F.slot_dict_getitem.lookup (d_getItem hu I gt ry fun w' s3 I3 rw' => ⟨w, H, I3, rw', q⟩) hs
noncomputable def rIxN (g : G) : R2 := fun x y H Q => ∃ p rho kvs xs k d, x = .ref p ∧ H p = some (.ext (NDict g.cls.w p xs)) ∧ NvRep g.K rho H kvs xs ∧ g.Rep rho H k y ∧ keyN k = true ∧ dLook kvs k = some d ∧ ∀ v, g.Rep rho H d v → Q v H
theorem ix_nest (hK : X.K = g.K) (hw : g.cls.w = X.w) (hu : X.A.units + 64 < cLine) : IxR X (rIxN g) := by
 intro value slice pins s sg H x y v u Q I rx ry h hs
 obtain ⟨p, rho, kvs, xs, k, d, rfl, hH, nv, rk, hk, ed, q⟩ := h
 obtain rfl : v = Value.ref p := rx
 obtain ⟨q9, ik, rfl⟩ := rep_keyN hK I rk hk ry
 obtain ⟨hm, _, ys, pr, dd⟩ := nd_of hK hw I hH nv
 obtain ⟨q2, w, uu, e1, e2, e3⟩ := (nv_look (k := k) nv pr).1 d ed
 exact PyProof.Rows.tail_any dd.typeIs PySem.F.slot_dict_getitem.lookup (wpAny_getItem_heap (knd := nestKind X.prog X.w) (by show X.A.units + 1 + 16 < cLine; omega) ik dd e1 ⟨w, H, I.tok _, e2, q w e3⟩) hs
theorem sd_ix (hK : X.K = g.K) (hw : g.cls.w = X.w) (hu : X.A.units + 64 < cLine) (ha : Sd g X a a') (hb : Sd g X b b') (hs : PlainIx b) : Sd g X (.Subscript a b pos) (.ix a' b') := pe_imp (pe_ix (ix_seq.or ((ix_dict (by omega)).or (ix_nest hK hw hu))) ha hb hs) fun sg H Q q => by
 obtain ⟨rho, st, env, s, n, q⟩ := q
 simp only [evalE] at q
 refine two (k := ixD) ?_ s n q
 intro x y u v st rho H Q s rx ry q
 have seq : RQ g (ixS x y st) (Post g rho H Q) rho H → rIx X.K u v H Q := by
  intro q
  cases y with
  | int i =>
   simp only [ixS] at q
   split at q
   · rename_i xs e
     split at q
     · rename_i d ed
       obtain ⟨p, vs, rfl, sq, rl⟩ := seq_of s rx e
       obtain ⟨w, e1, r1⟩ := RepL_at rl ed
       have fin : Q w H := (show Post g rho H Q d st from q) _ H rho (.refl _ _) s r1
       rw [← hK] at sq
       rcases sq with sq | sq
       · exact .inl ⟨p, vs, i, w, rfl, rep_int.mp ry, sq, e1, fin⟩
       · exact .inr (.inl ⟨p, vs, i, w, rfl, rep_int.mp ry, sq, e1, fin⟩)
     · exact q.elim
   · split at q
     · rename_i z _
       split at q
       · rename_i c ec
         split at q
         · rename_i hz
           exact .inr (.inr ⟨_, i, c, rep_str.mp rx, rep_int.mp ry, hz, ec, (show Post g rho H Q _ st from q) _ H rho (.refl _ _) s (rep_str.mpr rfl)⟩)
         · exact q.elim
       · exact q.elim
     · exact q.elim
  | _ => exact q.elim
 cases x with
 | loc n =>
  simp only [ixD] at q
  cases e : dctOf st n with
  | none =>
   rw [e] at q
   simp only at q
   cases e9 : dcnOf st n with
   | none => rw [e9] at q; exact .inl (seq q)
   | some kvs =>
    rw [e9] at q
    simp only at q
    split at q
    · rename_i hk
      split at q
      · rename_i d ed
        obtain ⟨p, xs, h1, _, h2, nv⟩ := sto_dcn s e9
        obtain ⟨p2, h4, rfl⟩ := rep_loc.mp rx
        rw [h1] at h4; cases h4
        exact .inr (.inr ⟨p, rho, kvs, xs, y, d, rfl, h2, nv, ry, hk, ed, fun w rw1 => (show Post g rho H Q d st from q) _ H rho (.refl _ _) s rw1⟩)
      · exact q.elim
    · exact q.elim
  | some kvs =>
   rw [e] at q
   simp only at q
   split at q
   · rename_i hk
     split at q
     · rename_i d ed
       obtain ⟨k, ek⟩ := kD_key hk
       obtain ⟨p, ws, h1, _, h2, h3⟩ := sto_dct s e
       obtain ⟨p2, h4, rfl⟩ := rep_loc.mp rx
       rw [h1] at h4; cases h4
       cases rep_kD ry ek
       obtain ⟨w, e1, e2⟩ := (kv_look ek h3).1 d ed
       exact .inr (.inl ⟨p, w, rfl, by rw [← e1]; exact DGet.k h2, (show Post g rho H Q d st from q) _ H rho (.refl _ _) s e2⟩)
     · exact q.elim
   · exact q.elim
 | _ => exact .inl (seq q)
end DD
namespace DD
open PySem PySem.Spec L2
variable {g : G} {X : Cx} {a b c : Expr} {a' b' c' : E} {pos : Pos} {rest es : List Expr} {es' : Es}
theorem bts {r : List V → Hp → VK → Prop} {f : Bt} (hr : ∀ ds vs st rho H Q, g.Sto rho st H → g.RepL rho H ds vs → RQ g (btD f ds st) (Post g rho H Q) rho H → r vs H Q) {sg : L2.St} {H : Hp} {Q : VK} (q : tE g (.bt f es') sg H Q) : tCB r (tEs g es') sg H Q := by
 obtain ⟨rho, st, env, s, n, q⟩ := q
 simp only [evalE] at q
 refine stepL s n q fun ds st1 vs H1 r1 k1 s1 n1 rps q1 => ?_
 exact hr ds vs st1 r1 H1 Q s1 rps (RQ.mono (.refl _ _) q1 fun _ _ p => p.mono k1)
theorem repL1 {rho : List Addr} {H : Hp} {d : D} {vs : List V} (r : g.RepL rho H [d] vs) : ∃ v, vs = [v] ∧ g.Rep rho H d v := by
 simp only [RepL] at r
 obtain ⟨v, t, rfl, r1, rfl⟩ := r
 exact ⟨v, rfl, r1⟩
theorem bt_one {f : Bt} {ds : List D} {st : Sto} (hf : f ≠ .minB ∧ f ≠ .maxB) {ok : D → Sto → Prop} {rho : List Addr} {H : Hp} (q : RQ g (btD f ds st) ok rho H) : ∃ d, ds = [d] := by
 cases ds with
 | nil => cases f <;> exact q.elim
 | cons d t =>
  cases t with
  | nil => exact ⟨d, rfl⟩
  | cons e u =>
   exfalso
   cases f <;> first | exact hf.1 rfl | exact hf.2 rfl | (cases d <;> exact q.elim)
theorem sd_len {e : Expr} {p : Pos} (hK : X.K = g.K) (hg : Gl X "len") (hm : X.mg "len" = none) (ha : SdL g X (e :: es) es') (he : starEach (e :: es) X.env = (false, eval e X.env) :: starEach es X.env := by rfl) (hpl : (backTo pos (starEach es X.env)).any (·.1) = false := by rfl) :
    Sd g X (.Call (.Name "len" p) (e :: es) [] pos) (.bt .lenB es') := pe_imp (pe_callB (CallR.or call_len_seq call_len_str) hg hm rfl ha (by decide) (by decide) he hpl) fun sg H Q q => by
  refine bts (f := .lenB) (fun ds vs st rho H Q s r q => ?_) q
  obtain ⟨d, rfl⟩ := bt_one ⟨by decide, by decide⟩ q
  obtain ⟨v, rfl, r1⟩ := repL1 r
  have seq : ∀ xs, seqOf st d = some xs → Post g rho H Q (.int xs.length) st → ∃ p ys, [v] = [V.ref p] ∧ (SqL X.K H p ys ∨ SqT X.K H p ys) ∧ Q (.int ys.length) H := by
    intro xs e q
    obtain ⟨p, ws, rfl, sq, rl⟩ := seq_of s r1 e
    refine ⟨p, ws, rfl, by rw [hK]; exact sq, ?_⟩
    rw [← rl.length]
    exact q _ H rho (.refl _ _) s (rep_int.mpr rfl)
  cases d with
  | tup xs => exact .inl (seq xs rfl q)
  | loc n =>
    simp only [btD] at q
    split at q
    · rename_i xs e
      exact .inl (seq xs e q)
    · exact q.elim
  | str z =>
    simp only [btD] at q
    split at q
    · rename_i hz
      cases rep_str.mp r1
      exact .inr ⟨z, rfl, hz, (show Post g rho H Q (.int _) st from q) _ H rho (.refl _ _) s (rep_int.mpr rfl)⟩
    · exact q.elim
  | _ => exact q.elim
theorem sd_tuple {e : Expr} {p : Pos} (hK : X.K = g.K) (hg : Gl X "tuple") (hm : X.mg "tuple" = none) (ha : SdL g X (e :: es) es') (he : starEach (e :: es) X.env = (false, eval e X.env) :: starEach es X.env := by rfl) (hpl : (backTo pos (starEach es X.env)).any (·.1) = false := by rfl) :
    Sd g X (.Call (.Name "tuple" p) (e :: es) [] pos) (.bt .tupleB es') := pe_imp (pe_callTy call_tuple_of hg hm rfl ha (by decide) (by decide) he hpl) fun sg H Q q => by
  refine bts (f := .tupleB) (fun ds vs st rho H Q s r q => ?_) q
  obtain ⟨d, rfl⟩ := bt_one ⟨by decide, by decide⟩ q
  obtain ⟨v, rfl, r1⟩ := repL1 r
  simp only [btD] at q
  split at q
  · rename_i xs e
    have q : Post g rho H Q (.tup xs) st := q
    obtain ⟨p, ws, rfl, sq, rl⟩ := seq_of s r1 e
    rw [← hK] at sq
    refine ⟨p, ws, rfl, ?_⟩
    rcases sq with sq | sq
    · refine .inl ⟨sq, fun l hl => ?_⟩
      have e := same_upd hl (.tup ws)
      exact q (.ref l) _ rho (Same.keep e rho) (s.same e) (rep_tup.mpr ⟨l, ws, rfl, SqT.of upd_same, rl.mono (Same.keep e rho)⟩)
    · exact .inr ⟨sq, q (.ref p) H rho (.refl _ _) s (rep_tup.mpr ⟨p, ws, rfl, by rw [← hK]; exact sq, rl⟩)⟩
  · exact q.elim
theorem sd_list {e : Expr} {p : Pos} (hK : X.K = g.K) (hg : Gl X "list") (hm : X.mg "list" = none) (ha : SdL g X (e :: es) es') (he : starEach (e :: es) X.env = (false, eval e X.env) :: starEach es X.env := by rfl) (hpl : (backTo pos (starEach es X.env)).any (·.1) = false := by rfl) :
    Sd g X (.Call (.Name "list" p) (e :: es) [] pos) (.bt .listB es') := pe_imp (pe_callTy call_list_of hg hm rfl ha (by decide) (by decide) he hpl) fun sg H Q q => by
  refine bts (f := .listB) (fun ds vs st rho H Q s r q => ?_) q
  obtain ⟨d, rfl⟩ := bt_one ⟨by decide, by decide⟩ q
  obtain ⟨v, rfl, r1⟩ := repL1 r
  simp only [btD] at q
  split at q
  · rename_i xs e
    obtain ⟨p, ws, rfl, sq, rl⟩ := seq_of s r1 e
    exact ⟨p, ws, rfl, by rw [hK]; exact sq, fun l hl => new_lst s rl hl q⟩
  · exact q.elim
noncomputable def spD (K : PySem.W.Frag) (cls : CW) (np : Nat) (run : List D → Sto → Res D) : Sp := fun vs H Q Ex => vs.length = np ∧ ∃ rho st ds, StoRep K cls rho st H ∧ RepL K rho H ds vs ∧
 match run ds st with
 | .ok d st' => ∀ v H' rho', Keep K rho H rho' H' → StoRep K cls rho' st' H' → Rep K rho' H' d v → Q v H'
 | .exc k st' => ∀ H' rho', Keep K rho H rho' H' → StoRep K cls rho' st' H' → Ex (.ref (cls k)) none H'
 | .bad => False
theorem sd_call {k f : Nat} {fa : Addr} {fd : FuncData} {ps : List Str} {x : Str} {p : Pos} {e : Expr} {dv : List D} {dvs : List V} {ds : List Value} {np : Nat}
    (F : FnOk X.prog X.w X.K X.mg X.base (CXd X.prog X.w) k fa fd ps (spD g.K g.cls np (g.call f))) (hr : Room k X.A) (hg : Gl X x) (hm : X.mg x = some (.ref fa)) (hk : PySem.W.keepIn X.K (.ref fa) = true) (hb : Binds X.K fd ps ds) (hd : Vals dvs ds)
    (hdv : ∀ rho H, g.RepL rho H dv dvs) (hx : Passes (CXd X.prog X.w) X g.xk) (hl : ∀ ds st, ds.length ≠ np → g.call f ds st = .bad) (ha : SdL g X (e :: es) es') (hdb : (x == ("__debug__" : Str)) = false := by decide)
    (he : starEach (e :: es) X.env = (false, eval e X.env) :: starEach es X.env := by rfl) (hpl : (backTo pos (starEach es X.env)).any (·.1) = false := by rfl) : Sd g X (.Call (.Name x p) (e :: es) [] pos) (.call f es' dv) :=
  pe_imp (pe_call F hr hg hm hk hb hd hx ha hdb he hpl) fun sg H Q q => by
    obtain ⟨rho, st, env, s, n, q⟩ := q
    simp only [evalE] at q
    refine stepL s n q fun ds st1 vs H1 r1 k1 s1 n1 rps q1 => ?_
    have rr := rps.append (hdv r1 H1)
    have hlen : (ds ++ dv).length = np := Decidable.byContradiction fun z => by rw [hl _ _ z] at q1; exact q1
    refine ⟨by rw [← rr.length]; exact hlen, r1, st1, ds ++ dv, s1, rr, ?_⟩
    revert q1
    cases g.call f (ds ++ dv) st1 with
    | ok d st' => exact fun q1 v H' rho' k s' r => (show Post g rho H Q d st' from q1) v H' rho' (k1.trans k) s' r
    | exc c st' => exact fun q1 H' rho' k s' => q1 H' rho' k s'
    | bad => exact fun q1 => q1
theorem sdt_and1 (ha : SdT g X a a') : PW X (.BoolOp .And [a] pos) (tT g a') := pw_and1 ha
theorem sdt_or1 (ha : SdT g X a a') : PW X (.BoolOp .Or [a] pos) (tT g a') := pw_or1 ha
theorem pw_imp {t t' : TT} {e : Expr} (h : PW X e t) (hi : ∀ sg H Q, t' sg H Q → t sg H Q) : PW X e t' := fun whole pins s sg H Q I q => h whole pins s sg H Q I (hi _ _ _ q)
theorem sdt_and (ha : SdT g X a a') (hb : PW X (.BoolOp .And (b :: rest) pos) (tT g b')) : PW X (.BoolOp .And (a :: b :: rest) pos) (tT g (.andE a' b')) := pw_imp (pw_and ha hb) fun sg H Q q => by
 obtain ⟨rho, st, env, s, n, q⟩ := q
 simp only [evalT] at q
 refine stepT s n q fun t st1 H1 r1 k1 s1 n1 q1 => ?_
 cases t with
 | true => exact iteT ⟨r1, st1, env, s1, n1, RQ.mono (.refl _ _) q1 fun _ _ p => p.mono k1⟩
 | false => exact iteF ((show PostB g rho H Q false st1 from q1) H1 r1 k1 s1)
theorem sdt_or (ha : SdT g X a a') (hb : PW X (.BoolOp .Or (b :: rest) pos) (tT g b')) : PW X (.BoolOp .Or (a :: b :: rest) pos) (tT g (.orE a' b')) := pw_imp (pw_or ha hb) fun sg H Q q => by
 obtain ⟨rho, st, env, s, n, q⟩ := q
 simp only [evalT] at q
 refine stepT s n q fun t st1 H1 r1 k1 s1 n1 q1 => ?_
 cases t with
 | true => exact iteT ((show PostB g rho H Q true st1 from q1) H1 r1 k1 s1)
 | false => exact iteF ⟨r1, st1, env, s1, n1, RQ.mono (.refl _ _) q1 fun _ _ p => p.mono k1⟩
theorem sdt_not (ha : SdT g X a a') : SdT g X (.UnaryOp .Not a pos) (.notE a') := pt_imp (pt_not ha) fun sg H Q q => by
 obtain ⟨rho, st, env, s, n, q⟩ := q
 simp only [evalT] at q
 refine stepT s n q fun t st1 H1 r1 k1 s1 n1 q1 => ?_
 exact (show PostB g rho H Q (!t) st1 from q1) H1 r1 k1 s1
theorem tru_of {rho : List Addr} {st : Sto} {H : Hp} (s : g.Sto rho st H) {d : D} {v : V} {k : Bool} (r : g.Rep rho H d v) (h : truth st d = some k) : TruV g.K v H k := by
 cases d with
 | non => cases rep_non.mp r; simp [truth] at h; subst h; rfl
 | bl b => cases rep_bl.mp r; simp [truth] at h; subst h; rfl
 | int i => cases rep_int.mp r; simp only [truth] at h; cases h; rfl
 | str x =>
  cases rep_str.mp r
  simp only [truth] at h
  split at h
  · rename_i z; cases h; exact ⟨z, rfl⟩
  · cases h
 | tup ds =>
  obtain ⟨a, vs, rfl, q, rl⟩ := rep_tup.mp r
  simp only [truth] at h; cases h
  have hl := rl.length
  exact .inr (.inl ⟨vs, q, by cases ds <;> cases vs <;> simp_all⟩)
 | loc n =>
  simp only [truth] at h
  cases el : lstOf st n with
  | none => rw [el] at h; cases h
  | some ds =>
   rw [el] at h; cases h
   obtain ⟨a, vs, h1, q, rl⟩ := sto_seq s el
   obtain ⟨a2, h2, rfl⟩ := rep_loc.mp r
   rw [h1] at h2; cases h2
   have hl := rl.length
   exact .inl ⟨vs, q, by cases ds <;> cases vs <;> simp_all⟩
theorem sdt_val (hK : X.K = g.K) (ha : Sd g X a a') (hev : ∀ env st, evalT g.tab g.call a' env st = (evalE g.tab g.call a' env st).bind fun d st => match truth st d with | some b => .ok b st | none => .bad)
    (he : ∀ whole, isTrue a X.env whole = (do let v ← whole; standAt a.pos; holding [v] (truthy v))) : SdT g X a a' := pt_imp (pt_truth ha he) fun sg H Q q => by
  obtain ⟨rho, st, env, s, n, q⟩ := q
  rw [hev] at q
  refine step s n q fun d st1 v H1 r1 k1 s1 n1 rp q1 => ?_
  cases e : truth st1 d with
  | none => rw [e] at q1; exact q1.elim
  | some k =>
    rw [e] at q1
    exact ⟨k, by rw [hK]; exact tru_of s1 rp e, (show PostB g rho H Q k st1 from q1) H1 r1 k1 s1⟩
end DD
namespace DD
open PySem PySem.Spec L2
variable {g : G} {X : Cx} {a b c : Expr} {a' b' c' : E} {pos : Pos} {rest es : List Expr} {es' : Es}
noncomputable def kb (t T : String) : Option Bool := if ((Value.type t == Value.type T) = true) then some true else if PySem.W.kitMeta T = true then (fastBuiltinMro t).map (·.contains (.type T)) else none
theorem kit_kb (K : PySem.W.Frag) (t T : String) : PySem.W.kitOne K (.type t) (.type T) = kb t T := rfl
theorem kit_b (K : PySem.W.Frag) {t T : String} (ht : t ∈ ["NoneType", "bool", "int", "str", "tuple", "list", "dict"]) (hT : T ∈ ["bool", "int", "tuple", "list", "str", "dict"]) : PySem.W.kitOne K (.type t) (.type T) = subB t T := by
 rw [kit_kb]
 simp only [List.mem_cons, List.mem_nil_iff, or_false] at ht hT
 rcases ht with rfl | rfl | rfl | rfl | rfl | rfl | rfl <;> rcases hT with rfl | rfl | rfl | rfl | rfl | rfl <;> first | rfl | kernel_rfl | decide +kernel
def rIsi (g : G) (K : PySem.W.Frag) (T : Ty) (u : Value) : List V → Hp → VK → Prop := fun xs H Q => ∃ rho st d x cv t k, xs = [x, cv] ∧ RelV cv u ∧ g.Sto rho st H ∧ g.Rep rho H d x ∧ tyOf st d = some t ∧ subT g.tab t T = some k ∧ Q (.bl k) H
theorem call_isi {T : Ty} {u : Value} (hK : X.K = g.K) (hu : ∀ v w, RelV v u → RelV v w → w = u) (hB : ∀ t k, t ∈ ["NoneType", "bool", "int", "str", "tuple", "list", "dict"] → subT g.tab (.b t) T = some k → PySem.W.kitOne X.K (.type t) u = some k)
    (hO : ∀ n k, g.tab n T = some k → ExcC X.K (g.cls n) ∧ PySem.W.kitOne X.K (.ref (g.cls n)) u = some k) : CallR X (.builtin "isinstance") (rIsi g X.K T u) := by
  intro pins s sg H xs us Q I rv h
  obtain ⟨rho, st, d, x, cv, t, k, rfl, rc, S, r, ht, hs, q⟩ := h
  obtain ⟨u1, u2, rfl, ru1, ru2⟩ := vals2 rv
  obtain rfl := hu cv u2 rc ru2
  have fin : ∀ tk, EP X pins sg Q (.bool k) { s with toks := tk } := fun tk => ⟨.bl k, H, I.tok tk, rfl, q⟩
  cases d with
  | non =>
    cases rep_non.mp r; cases ru1; cases ht
    exact PySem.W.kia_one PySem.W.kitx_none I.kIn True.intro (hB _ _ (by simp) hs) (fun z => nomatch z) fin
  | bl y =>
    cases rep_bl.mp r; cases ru1; cases ht
    exact PySem.W.kia_one PySem.W.kitx_bool I.kIn True.intro (hB _ _ (by simp) hs) (fun z => nomatch z) fin
  | int i =>
    cases rep_int.mp r; obtain ⟨_, rfl⟩ := ru1; cases ht
    exact PySem.W.kia_one PySem.W.kitx_int I.kIn True.intro (hB _ _ (by simp) hs) (fun z => nomatch z) fin
  | str i =>
    cases rep_str.mp r; obtain ⟨_, rfl⟩ := ru1; cases ht
    exact PySem.W.kia_one PySem.W.kitx_str I.kIn True.intro (hB _ _ (by simp) hs) (fun z => nomatch z) fin
  | tup ds =>
    obtain ⟨p, vs, rfl, sq, rl⟩ := rep_tup.mp r
    cases ru1; cases ht
    rw [← hK] at sq
    obtain ⟨its, rvs, ⟨o, ho, hc, n', hd⟩, _⟩ := I.tuple sq
    exact PySem.W.kia_one PySem.W.kitx_tuple I.kIn ⟨o, ho, hc⟩ (hB _ _ (by simp) hs) (fun z => nomatch z) fin
  | loc n =>
    obtain ⟨p, hp, rfl⟩ := rep_loc.mp r
    cases ru1
    simp only [tyOf] at ht
    cases ec : st[n]? with
    | none => rw [ec] at ht; cases ht
    | some cl =>
      rw [ec] at ht
      have cr := S.cells n p cl hp ec
      cases cl with
      | lst ds =>
        cases ht
        obtain ⟨vs, hH, _⟩ := cr
        obtain ⟨_, _, n', _, h1⟩ := (show ObjOk X.prog X.w H s.heap p (.lst vs) from I.hok p _ hH)
        exact PySem.W.kia_one PySem.W.kitx_list I.kIn ⟨_, h1, rfl⟩ (hB _ _ (by simp) hs) (fun z => nomatch z) fin
      | frz ds =>
        cases ht
        obtain ⟨vs, hH, _⟩ := cr
        rcases hH with ⟨o, hH⟩ | ⟨o, its, n', hk, hc, _⟩
        · obtain ⟨_, _, _, n', _, h1⟩ := (show ObjOk X.prog X.w H s.heap p (.frz o (.lst vs)) from I.hok p _ hH)
          exact PySem.W.kia_one PySem.W.kitx_list I.kIn ⟨_, h1, rfl⟩ (hB _ _ (by simp) hs) (fun z => nomatch z) fin
        · rw [← hK] at hk
          exact PySem.W.kia_one PySem.W.kitx_list I.kIn ⟨o, I.kIn _ _ hk, hc⟩ (hB _ _ (by simp) hs) (fun z => nomatch z) fin
      | dct kvs =>
        cases ht
        obtain ⟨ws, hH, _⟩ := cr
        obtain ⟨_, _, vs, _, o, es, ep, h1, h2, _⟩ := (show ObjOk X.prog X.w H s.heap p (.dK ws) from I.hok p _ hH)
        exact PySem.W.kia_one PySem.W.kitx_dict I.kIn ⟨o, h1, h2.1⟩ (hB _ _ (by simp) hs) (fun z => nomatch z) fin
      | ins m fs => cases ht
      | dcn kvs =>
        cases ht
        obtain ⟨ws, hH, _⟩ := cr
        obtain ⟨⟨_, _, _, o, es, ep, h1, h2, _⟩, _⟩ := (show ObjOk X.prog X.w H s.heap p (.ext _) from I.hok p _ hH)
        exact PySem.W.kia_one PySem.W.kitx_dict I.kIn ⟨o, h1, h2.1⟩ (hB _ _ (by simp) hs) (fun z => nomatch z) fin
      | dcf kvs =>
        cases ht
        obtain ⟨ws, u, hH, _⟩ := cr
        obtain ⟨_, _, _, vs, _, o, es, ep, h1, h2, _⟩ := (show ObjOk X.prog X.w H s.heap p (.frz u (.dK ws)) from I.hok p _ hH)
        exact PySem.W.kia_one PySem.W.kitx_dict I.kIn ⟨o, h1, h2.1⟩ (hB _ _ (by simp) hs) (fun z => nomatch z) fin
      | fnc i => exact cr.elim
      | exn m =>
        cases ht
        have hH : H p = some (.ext (ExcIs p (.ref (g.cls m)))) := cr
        obtain ⟨⟨o, ws, h1, h2, h3⟩, _⟩ := (show ObjOk X.prog X.w H s.heap p (.ext (ExcIs p (.ref (g.cls m)))) from I.hok p _ hH)
        obtain ⟨x1, x2⟩ := hO m k hs
        exact PySem.W.kia_one (kitx_exc x1) I.kIn ⟨o, h1, h2⟩ x2 (fun z => nomatch z) fin
end DD
namespace DD
open PySem PySem.Spec L2
variable {g : G} {X : Cx} {a b c : Expr} {a' b' c' : E} {pos : Pos} {rest es : List Expr} {es' : Es}
theorem im_isi {T : Ty} {u : Value} {cv : V} (hc : RelV cv u) {sg : L2.St} {H : Hp} {Q : VK} (q : tE g (.isi a' T) sg H Q) : tCB (rIsi g X.K T u) (tCons (tE g a') (tCons (tC cv) tNil)) sg H Q := by
 obtain ⟨rho, st, env, s, n, q⟩ := q
 simp only [evalE] at q
 refine step s n q fun d st1 v H1 r1 k1 s1 n1 rp q1 => ?_
 show rIsi g X.K T u [v, cv] H1 Q
 cases et : tyOf st1 d with
 | none => rw [et] at q1; exact q1.elim
 | some t =>
  rw [et] at q1
  simp only [Option.bind_some] at q1
  cases ek : subT g.tab t T with
  | none => rw [ek] at q1; exact q1.elim
  | some k =>
   rw [ek] at q1
   exact ⟨r1, st1, d, v, cv, t, k, rfl, hc, s1, rp, et, ek, (show Post g rho H Q (.bl k) st1 from q1) _ H1 r1 k1 s1 (rep_bl.mpr rfl)⟩
theorem sd_isiB {T : String} {x : Str} {p p2 : Pos} (hK : X.K = g.K) (hT : T ∈ ["bool", "int", "tuple", "list", "str", "dict"]) (hO : ∀ n, g.tab n (.b T) = none) (hg : Gl X "isinstance") (hm : X.mg "isinstance" = none) (hg2 : Gl X x) (hm2 : X.mg x = none) (hv : bootBuiltins x = some (.type T)) (ha : Sd g X a a')
    (hn : x ≠ "__name__" := by decide) (hd : (x == ("__debug__" : Str)) = false := by decide) (he : starEach [a, .Name x p2] X.env = (false, eval a X.env) :: starEach [.Name x p2] X.env := by rfl) (he2 : starEach [.Name x p2] X.env = (false, eval (.Name x p2) X.env) :: starEach [] X.env := by rfl) (hpl : (backTo pos (starEach [.Name x p2] X.env)).any (·.1) = false := by rfl) :
    Sd g X (.Call (.Name "isinstance" p) [a, .Name x p2] [] pos) (.isi a' (.b T)) := by
  have hc := call_isi (X := X) (T := .b T) (u := .type T) hK (fun v w h1 h2 => by cases v <;> first | (cases h1; exact h2) | (obtain ⟨_, z⟩ := h1; cases z) | cases h1) (fun t k ht hs => by rw [kit_b X.K ht hT]; exact hs) (fun n k h => by rw [hO n] at h; cases h)
  exact pe_imp (pe_callB hc hg hm rfl (pa_cons ha (pa_cons (pe_bltn (v := .ty T) hg2 hm2 hv rfl hn hd) pa_nil he2) he) (by decide) (by decide) he hpl) fun sg H Q q => im_isi (cv := .ty T) rfl q
theorem sd_dnew : Sd g X (.Dict [] [] pos) .dnew := pe_imp pe_dnewK fun sg H Q q => by
 obtain ⟨rho, st, env, s, n, q⟩ := q
 simp only [evalE] at q
 intro p hp
 have q : Post g rho H Q (.loc st.length) (st ++ [.dct []]) := q
 obtain ⟨k2, s2⟩ := s.laid hp (o := .dK []) (c := .dct []) ⟨[], upd_same, by simp [KvRep]⟩
 exact q (.ref p) _ _ k2 s2 (rep_loc.mpr ⟨p, by rw [← s.len]; simp, rfl⟩)
end DD
namespace DD
open PySem PySem.Spec L2
variable {g : G} {X : Cx} {a b c : Expr} {a' b' c' : E} {pos : Pos} {rest es : List Expr} {es' : Es} {F : Nat}
def PostF (g : G) (rho : List Addr) (H : Hp) (D : Ends) (f : Fl) (st : Sto) : Prop := match f with
 | .next env => ∀ sg H' rho', g.Keep rho H rho' H' → g.Sto rho' st H' → g.Env rho' H' env sg → D.nx sg H'
 | .brk env => ∀ sg H' rho', g.Keep rho H rho' H' → g.Sto rho' st H' → g.Env rho' H' env sg → D.bk sg H'
 | .cont env => ∀ sg H' rho', g.Keep rho H rho' H' → g.Sto rho' st H' → g.Env rho' H' env sg → D.ct sg H'
 | .ret d => ∀ v H' rho', g.Keep rho H rho' H' → g.Sto rho' st H' → g.Rep rho' H' d v → D.rt v H'
theorem PostF.mono {rho rho' : List Addr} {H H' : Hp} {D : Ends} {f : Fl} {st : Sto} (k : g.Keep rho H rho' H') (h : PostF g rho H D f st) : PostF g rho' H' D f st := by
 cases f <;> exact fun x H2 r2 k2 => h x H2 r2 (k.trans k2)
noncomputable def tS (g : G) (F : Nat) (s : S) : TS := fun D sg H => ∃ rho st env, g.Sto rho st H ∧ g.Env rho H env sg ∧ RQ g (execS g.tab g.call F s env st) (PostF g rho H D) rho H
noncomputable def tSs (g : G) (F : Nat) (s : Ss) : TS := fun D sg H => ∃ rho st env, g.Sto rho st H ∧ g.Env rho H env sg ∧ RQ g (execSs g.tab g.call F s env st) (PostF g rho H D) rho H
def SdS (g : G) (X : Cx) (F : Nat) (st : Stmt) (s : S) : Prop := PS X st (tS g F s)
def SdSs (g : G) (X : Cx) (F : Nat) (st : List Stmt) (s : Ss) : Prop := PSs X st (tSs g F s)
theorem ps_imp {t t' : TS} {e : Stmt} (h : PS X e t) (hi : ∀ D sg H, t' D sg H → t D sg H) : PS X e t' := fun pins s sg H D I q => h pins s sg H D I (hi _ _ _ q)
theorem pss_imp {t t' : TS} {e : List Stmt} (h : PSs X e t) (hi : ∀ D sg H, t' D sg H → t D sg H) : PSs X e t' := fun pins s sg H D I q => h pins s sg H D I (hi _ _ _ q)
theorem ss_nil : SdSs g X F [] .nil := pss_imp pss_nil fun D sg H q => by
 obtain ⟨rho, st, env, s, n, q⟩ := q
 exact (show PostF g rho H D (.next env) st from q) sg H rho (.refl _ _) s n
theorem ss_cons {s1 : Stmt} {r1 : List Stmt} {s1' : S} {r1' : Ss} (h : SdS g X F s1 s1') (t : SdSs g X F r1 r1') : SdSs g X F (s1 :: r1) (.cons s1' r1') := pss_imp (pss_cons h t) fun D sg H q => by
 obtain ⟨rho, st, env, s, n, q⟩ := q
 refine ⟨rho, st, env, s, n, ?_⟩
 simp only [execSs] at q
 revert q
 cases execS g.tab g.call F s1' env st with
 | bad => exact fun q => q
 | exc c st1 => exact fun q => q
 | ok f st1 =>
  simp only [bind_ok]
  cases f with
  | next env1 => exact fun q sg1 H1 rho1 k1 s1 n1 => ⟨rho1, st1, env1, s1, n1, RQ.mono k1 q fun f st p => PostF.mono k1 p⟩
  | ret d => exact fun q => q
  | brk env1 => exact fun q => q
  | cont env1 => exact fun q => q
theorem s_set {i : Nat} {x : Str} {e : Expr} {e' : E} {pos' : Pos} (hN : X.N.Nodup) (hi : X.N[i]? = some x) (hx : Loc X.env.scope x) (he : Sd g X e e') (hs : swapsWith e (some (.Name x pos')) pos.line X.env = pure false := by rfl) (hf : X.fn x = true ∨ X.env.scope.names.lookup x = some .local := by first | exact .inl rfl | exact .inr rfl | assumption) :
    SdS g X F (.Assign [.Name x pos'] e pos) (.set i e') := ps_imp (ps_set hN hi hx he hs hf) fun D sg H q => by
  obtain ⟨rho, st, env, s, n, q⟩ := q
  simp only [execS] at q
  refine step s n q fun d st1 v H1 r1 k1 s1 n1 rp q1 => ?_
  split at q1
  · exact (show PostF g rho H D (.next _) st1 from q1) _ H1 r1 k1 s1 (n1.set i rp)
  · exact q1.elim
theorem s_ret {e : Expr} {e' : E} (he : Sd g X e e') : SdS g X F (.Return (some e) pos) (.ret e') := ps_imp (ps_ret he) fun D sg H q => by
 obtain ⟨rho, st, env, s, n, q⟩ := q
 simp only [execS] at q
 refine step s n q fun d st1 v H1 r1 k1 s1 n1 rp q1 => ?_
 exact (show PostF g rho H D (.ret d) st1 from q1) v H1 r1 k1 s1 rp
theorem s_ex {e : Expr} {e' : E} (he : Sd g X e e') (hs : swapsWith e none pos.line X.env = pure false := by rfl) : SdS g X F (.Expr e pos) (.ex e') := ps_imp (ps_expr he hs) fun D sg H q => by
 obtain ⟨rho, st, env, s, n, q⟩ := q
 simp only [execS] at q
 refine step s n q fun d st1 v H1 r1 k1 s1 n1 rp q1 => ?_
 exact (show PostF g rho H D (.next env) st1 from q1) sg H1 r1 k1 s1 n1
theorem s_if {c : Expr} {c' : E} {x y : List Stmt} {x' y' : Ss} (hc : SdT g X c c') (hx : SdSs g X F x x') (hy : SdSs g X F y y') : SdS g X F (.If c x y pos) (.ifS c' x' y') := ps_imp (ps_if hc hx hy) fun D sg H q => by
 obtain ⟨rho, st, env, s, n, q⟩ := q
 simp only [execS] at q
 refine stepT s n q fun t st1 H1 r1 k1 s1 n1 q1 => ?_
 cases t with
 | true => exact iteT ⟨r1, st1, env, s1, n1, RQ.mono (.refl _ _) q1 fun _ _ p => p.mono k1⟩
 | false => exact iteF ⟨r1, st1, env, s1, n1, RQ.mono (.refl _ _) q1 fun _ _ p => p.mono k1⟩
theorem s_while {c : Expr} {c' : E} {x : List Stmt} {x' : Ss} (hp : PassesOwn (model X.prog X.w) X.A X.env X.xe) (hc : SdT g X c c') (hx : SdSs g X F x x') : SdS g X F (.While c x [] pos) (.whileS c' x') := ps_imp (ps_while hp hc hx) fun D sg H q => by
 obtain ⟨rho, st, env, s, n, q⟩ := q
 simp only [execS] at q
 refine ⟨fun m sg H => ∃ rho st env, g.Sto rho st H ∧ g.Env rho H env sg ∧ RQ g (whileLoop (evalT g.tab g.call c') (execSs g.tab g.call F x') m env st) (PostF g rho H D) rho H, ⟨F, rho, st, env, s, n, q⟩, ?_⟩
 rintro m sg H ⟨rho, st, env, s, n, q⟩
 cases m with
 | zero => exact q.elim
 | succ m =>
  simp only [whileLoop] at q
  refine stepT s n q fun t st1 H1 r1 k1 s1 n1 q1 => ?_
  cases t with
  | false =>
   refine iteF ?_
   exact (show PostF g rho H D (.next env) st1 from q1) sg H1 r1 k1 s1 n1
  | true =>
   refine iteT ⟨fun sg H => ∃ rho st env, g.Sto rho st H ∧ g.Env rho H env sg ∧ RQ g (whileLoop (evalT g.tab g.call c') (execSs g.tab g.call F x') m env st) (PostF g rho H D) rho H, fun sg' H' h => ⟨m, Nat.lt_succ_self m, h⟩, r1, st1, env, s1, n1, ?_⟩
   revert q1
   cases execSs g.tab g.call F x' env st1 with
   | bad => exact fun q => q
   | exc c st2 => exact fun q => q
   | ok f st2 =>
    simp only [bind_ok]
    cases f with
    | next env2 => exact fun q sg2 H2 r2 k2 s2 n2 => ⟨r2, st2, env2, s2, n2, RQ.mono k2 q fun f st p => PostF.mono (k1.trans k2) p⟩
    | cont env2 => exact fun q sg2 H2 r2 k2 s2 n2 => ⟨r2, st2, env2, s2, n2, RQ.mono k2 q fun f st p => PostF.mono (k1.trans k2) p⟩
    | brk env2 => exact fun q => PostF.mono (f := .next env2) k1 q
    | ret d => exact fun q => PostF.mono (f := .ret d) k1 q
end DD
namespace DD
open PySem PySem.Spec L2
variable {g : G} {X : Cx} {a b c : Expr} {a' b' c' : E} {pos : Pos} {rest es : List Expr} {es' : Es} {F : Nat}
noncomputable def gs : List Nat → TGs
 | [] => gNil
 | i :: r => gCons (gName i) (gs r)
noncomputable def tg (K : PySem.W.Frag) (is : List Nat) (one : Bool) : TG := if one then (match is with | [i] => gName i | _ => fun _ _ _ _ => False) else gTup K is.length (gs is)
theorem gs_store {rho : List Addr} {H : Hp} {Q : L2.St → Hp → Prop} : ∀ {is : List Nat} {ds : List D} {vs : List V} {env env' : Env} {sg : L2.St}, setAll is ds env = some env' → g.RepL rho H ds vs → g.Env rho H env sg → (∀ sg', g.Env rho H env' sg' → Q sg' H) → gs is vs sg H Q
 | [], [], vs, env, env', sg, e, r, n, h => by
  simp only [RepL] at r; subst r
  simp only [setAll] at e; cases e
  exact ⟨rfl, h sg n⟩
 | [], d :: t, vs, env, env', sg, e, r, n, h => by simp [setAll] at e
 | i :: t, [], vs, env, env', sg, e, r, n, h => by simp [setAll] at e
 | i :: t, d :: u, vs, env, env', sg, e, r, n, h => by
  simp only [RepL] at r
  obtain ⟨v, w, rfl, r1, r2⟩ := r
  simp only [setAll] at e
  split at e
  · exact ⟨v, w, rfl, gs_store e r2 (n.set i r1) h⟩
  · cases e
theorem tg_store {rho : List Addr} {H : Hp} {Q : L2.St → Hp → Prop} {is : List Nat} {one : Bool} {d : D} {v : V} {env env' : Env} {sg : L2.St} (e : store is one d env = some env') (r : g.Rep rho H d v) (n : g.Env rho H env sg) (h : ∀ sg', g.Env rho H env' sg' → Q sg' H) : tg g.K is one v sg H Q := by
 unfold store at e
 unfold tg
 cases one with
 | true =>
  rw [if_pos rfl] at e ⊢
  match is, e with
  | [i], e =>
   simp only [setAll] at e
   split at e
   · cases e; exact h _ (n.set i r)
   · cases e
  | [], e => simp [setAll] at e
  | i :: j :: t, e => simp [setAll] at e
 | false =>
  rw [if_neg Bool.false_ne_true] at e ⊢
  cases d with
  | tup ds =>
   obtain ⟨p, vs, rfl, q, rl⟩ := rep_tup.mp r
   refine ⟨p, vs, rfl, q, ?_, gs_store e rl n h⟩
   have : ∀ {is : List Nat} {ds : List D} {env env' : Env}, setAll is ds env = some env' → is.length = ds.length := by
    intro is
    induction is with
    | nil => intro ds env env' e; cases ds with
     | nil => rfl
     | cons _ _ => simp [setAll] at e
    | cons i t ih => intro ds env env' e; cases ds with
     | nil => simp [setAll] at e
     | cons _ _ =>
      simp only [setAll] at e
      split at e
      · simp [ih e]
      · cases e
   rw [← rl.length, this e]
  | _ => cases e
theorem tg_one {i : Nat} {x : Str} (hN : X.N.Nodup) (hi : X.N[i]? = some x) (hx : Loc X.env.scope x) (hf : X.fn x = true ∨ X.env.scope.names.lookup x = some .local := by first | exact .inl rfl | exact .inr rfl | assumption) : PG X (.Name x pos) (tg g.K [i] true) := pg_name hN hi hx hf
theorem for_any {J : It} {xs : List D} {p : Option Nat} {is : List Nat} {one : Bool} {x' : Ss} {r1 : List Addr} {H1 : Hp} {D : Ends} {sg : L2.St} {st1 : Sto} {env : Env}
    (hJ : ∀ rho st H, g.Keep r1 H1 rho H → g.Sto rho st H → stays st p xs = true → J.stop xs.length H ∧ ∀ (i : Nat) (d : DD.D), xs[i]? = some d → J.go i H ∧ ∀ x H', J.yld i H x H' → H' = H ∧ g.Rep rho H d x)
    (s1 : g.Sto r1 st1 H1) (n1 : g.Env r1 H1 env sg) (q1 : RQ g (forLoop xs p (fun d env st => match store is one d env with | some env' => execSs g.tab g.call F x' env' st | none => .bad) xs env st1) (PostF g r1 H1 D) r1 H1) :
    ∃ W : Nat → Nat → L2.St → Hp → Prop, (∃ m, W 0 m sg H1) ∧ ∀ i m sg H, W i m sg H →
      (J.stop i H ∧ D.nx sg H) ∨ (J.go i H ∧ ∃ N : L2.St → Hp → Prop, (∀ sg' H', N sg' H' → ∃ m', m' < m ∧ W (i + 1) m' sg' H') ∧ ∀ x H', J.yld i H x H' → tg g.K is one x sg H' fun sg2 H2 => tSs g F x' { D with nx := N, ct := N, bk := D.nx } sg2 H2) := by
  refine ⟨fun i m sg H => m = xs.length - i ∧ i ≤ xs.length ∧ ∃ rho st env, g.Keep r1 H1 rho H ∧ g.Sto rho st H ∧ g.Env rho H env sg ∧ RQ g (forLoop xs p (fun d env st => match store is one d env with | some env' => execSs g.tab g.call F x' env' st | none => .bad) (xs.drop i) env st) (PostF g rho H D) rho H, ⟨xs.length, by simp, Nat.zero_le _, r1, st1, env, .refl _ _, s1, n1, q1⟩, ?_⟩
  rintro i m sg H ⟨rfl, hi, rho, st, env, kk, s, n, q⟩
  have hst : stays st p xs = true := by
    cases z : stays st p xs with
    | true => rfl
    | false =>
      exfalso
      cases e : xs.drop i with
      | nil => rw [e] at q; simp only [forLoop, z] at q; exact q
      | cons d t => rw [e] at q; simp only [forLoop, z] at q; exact q
  obtain ⟨h1, h2⟩ := hJ rho st H kk s hst
  by_cases hlt : i < xs.length
  · obtain ⟨hgo, hy⟩ := h2 i xs[i] (List.getElem?_eq_getElem hlt)
    refine .inr ⟨hgo, fun sg H => i + 1 ≤ xs.length ∧ ∃ rho st env, g.Keep r1 H1 rho H ∧ g.Sto rho st H ∧ g.Env rho H env sg ∧ RQ g (forLoop xs p (fun d env st => match store is one d env with | some env' => execSs g.tab g.call F x' env' st | none => .bad) (xs.drop (i + 1)) env st) (PostF g rho H D) rho H, fun sg' H' h => ⟨xs.length - (i + 1), by omega, rfl, h.1, h.2⟩, fun x H' y => ?_⟩
    obtain ⟨e2, rx⟩ := hy x H' y
    subst e2
    rw [List.drop_eq_getElem_cons hlt] at q
    simp only [forLoop, hst, if_true] at q
    cases es : store is one xs[i] env with
    | none => rw [es] at q; exact q.elim
    | some env1 =>
      rw [es] at q
      refine tg_store es rx n fun sg1 n1 => ?_
      refine ⟨rho, st, env1, s, n1, ?_⟩
      revert q
      simp only
      cases execSs g.tab g.call F x' env1 st with
      | bad => exact fun q => q
      | exc c st2 => exact fun q => q
      | ok f st2 =>
        simp only [bind_ok]
        cases f with
        | next env2 => exact fun q sg2 H2 r2 k2 s2 n2 => ⟨hlt, r2, st2, env2, kk.trans k2, s2, n2, RQ.mono k2 q fun f st p => PostF.mono k2 p⟩
        | cont env2 => exact fun q sg2 H2 r2 k2 s2 n2 => ⟨hlt, r2, st2, env2, kk.trans k2, s2, n2, RQ.mono k2 q fun f st p => PostF.mono k2 p⟩
        | brk env2 => exact fun q => q
        | ret d => exact fun q => q
  · have e : i = xs.length := by omega
    subst e
    refine .inl ⟨h1, ?_⟩
    rw [List.drop_eq_nil_of_le (Nat.le_refl _)] at q
    simp only [forLoop, hst, if_true] at q
    exact (show PostF g rho H D (.next env) st from q) sg H rho (.refl _ _) s n
noncomputable def Es.len : Es → Nat
 | .nil => 0
 | .cons _ r => r.len + 1
theorem evalEs_len {tab : Nat → Ty → Option Bool} {call : Or} : ∀ {es : Es} {env : Env} {st st' : Sto} {ds : List DD.D}, evalEs tab call es env st = .ok ds st' → ds.length = es.len
 | .nil, env, st, st', ds, h => by simp only [evalEs] at h; cases h; rfl
 | .cons e r, env, st, st', ds, h => by
  simp only [evalEs] at h
  cases e1 : evalE tab call e env st with
  | bad => rw [e1] at h; cases h
  | exc c st1 => rw [e1] at h; cases h
  | ok d st1 =>
   rw [e1] at h
   simp only [bind_ok] at h
   cases e2 : evalEs tab call r env st1 with
   | bad => rw [e2] at h; cases h
   | exc c st2 => rw [e2] at h; cases h
   | ok t st2 =>
    rw [e2] at h
    simp only [bind_ok] at h
    cases h
    simp only [List.length_cons, evalEs_len e2, Es.len]
theorem stepL2 {β : Type} {e : Es} {env : Env} {sg : L2.St} {st : Sto} {rho : List Addr} {H : Hp} {k : List DD.D → Sto → Res β} {ok : β → Sto → Prop} {Q : List V → Hp → Prop} (s : g.Sto rho st H) (n : g.Env rho H env sg)
    (h : RQ g ((evalEs g.tab g.call e env st).bind k) ok rho H)
    (hk : ∀ d st1 v H1 rho1, d.length = e.len → g.Keep rho H rho1 H1 → g.Sto rho1 st1 H1 → g.Env rho1 H1 env sg → g.RepL rho1 H1 d v → RQ g (k d st1) ok rho1 H1 → Q v H1) : tEs g e sg H Q := by
  refine ⟨rho, st, env, s, n, ?_⟩
  revert h
  cases ee : evalEs g.tab g.call e env st with
  | ok d st1 => exact fun h v H1 r1 k1 s1 rp => hk d st1 v H1 r1 (evalEs_len ee) k1 s1 (n.mono k1) rp (RQ.mono k1 h fun _ _ x => x)
  | exc c st1 => exact fun h => h
  | bad => exact fun h => h
theorem rng1 {ds xs : List DD.D} {e : Expr} (h : rngOf ds = some xs) (hl : ds.length = 1) : ∃ j : Int, ds = [.int j] ∧ -(2 ^ 62) ≤ j ∧ j < 2 ^ 62 ∧ xs = rngL 0 j.toNat := by
 match ds, hl with
 | [d], _ =>
  cases d with
  | int j =>
   simp only [rngOf] at h
   split at h
   · rename_i z; cases h; exact ⟨j, rfl, z.1, z.2, rfl⟩
   · cases h
  | _ => simp [rngOf] at h
theorem s_forR {pos2 : Pos} {is : List Nat} {tgt e : Expr} {body : List Stmt} {x' : Ss} {e' : E} {p : Pos} (hp : PassesOwn (model X.prog X.w) X.A X.env X.xe) (hc : X.calm = true) (hg : Gl X "range") (hm : X.mg "range" = none) (ha : Sd g X e e') (ht : PG X tgt (tg g.K is true)) (hx : SdSs g X F body x')
    (he : starEach [e] X.env = [(false, eval e X.env)] := by rfl) (hs : ∀ x, foldedSetIterable (.Call (.Name "range" p) [e] [] pos) X.env x = pure x   := by intro _; rfl) : SdS g X F (.For tgt (.Call (.Name "range" p) [e] [] pos) body [] pos2) (.forR is (.cons e' .nil) x') := ps_imp (ps_for hp hc (pi_range1 hg hm (sdl_cons ha sdl_nil he) he) ht hx hs) fun D sg H q => by
  obtain ⟨rho, st, env, s, n, q⟩ := q
  simp only [execS] at q
  refine stepL2 s n q fun ds st1 vs H1 r1 hl k1 s1 n1 rps q1 => ?_
  split at q1
  · rename_i xs e1
    obtain ⟨j, rfl, j1, j2, rfl⟩ := rng1 (e := e) e1 hl
    obtain ⟨v, rfl, rv⟩ := repL1 rps
    refine ⟨j, by rw [rep_int.mp rv], j1, j2, ?_⟩
    refine for_any (J := Itr 0 j.toNat) (p := none) (fun rho st H _ _ _ => ⟨?_, fun i d hd => ?_⟩) s1 n1 (RQ.mono (.refl _ _) q1 fun f st p => PostF.mono k1 p)
    · show j.toNat ≤ _
      simp [rngL]
    · have hi : i < j.toNat := by
        have := (List.getElem?_eq_some_iff.mp hd).1
        simpa [rngL] using this
      refine ⟨hi, fun x H' y => ⟨y.1, ?_⟩⟩
      have hd' : d = .int (0 + (i : Nat)) := by
        have := (List.getElem?_eq_some_iff.mp hd).2
        simp [rngL] at this
        simp [← this]
      rw [hd', rep_int]
      exact y.2
  · exact q1.elim
theorem s_forL {is : List Nat} {one : Bool} {tgt e : Expr} {body : List Stmt} {x' : Ss} {e' : E} (hK : X.K = g.K) (hp : PassesOwn (model X.prog X.w) X.A X.env X.xe) (hc : X.calm = true) (ha : Sd g X e e') (ht : PG X tgt (tg g.K is one)) (hx : SdSs g X F body x')
    (hs : ∀ x, foldedSetIterable e X.env x = pure x := by intro _; rfl) : SdS g X F (.For tgt e body [] pos) (.forS is one false e' x') := ps_imp (ps_for hp hc (pi_list ha) ht hx hs) fun D sg H q => by
  obtain ⟨rho, st, env, s, n, q⟩ := q
  simp only [execS] at q
  refine step s n q fun d st1 v H1 r1 k1 s1 n1 rp q1 => ?_
  cases d with
  | loc m =>
    simp only [walkOf, Bool.false_eq_true, if_false] at q1
    cases el : lstOf st1 m with
    | none => rw [el] at q1; exact q1.elim
    | some ds =>
      rw [el] at q1
      simp only [Option.map_some] at q1
      obtain ⟨p, vs, hr, sq, rl⟩ := sto_seq s1 el
      obtain ⟨p2, hr2, rfl⟩ := rep_loc.mp rp
      rw [hr] at hr2; cases hr2
      refine ⟨p, rfl, ⟨vs, by rw [hK]; exact sq⟩, ?_⟩
      rw [hK]
      refine for_any (J := Itl g.K p) (p := some m) (fun rho st H kk s hst => ?_) s1 n1 (RQ.mono (.refl _ _) q1 fun f st p => PostF.mono k1 p)
      have hst : lstOf st m = some ds := of_decide_eq_true hst
      obtain ⟨p3, ws, hr3, sq3, rl3⟩ := sto_seq s hst
      rw [kk.at hr] at hr3; cases hr3
      refine ⟨⟨ws, sq3, by rw [← rl3.length]; exact Nat.le_refl _⟩, fun i d hd => ?_⟩
      obtain ⟨v, hv, rv⟩ := rl3.get hd
      refine ⟨⟨ws, v, sq3, hv⟩, fun x H' y => ⟨y.1, ?_⟩⟩
      have := y.2 ws sq3
      rw [hv] at this; cases this
      exact rv
  | _ => exact q1.elim
theorem sd_append {o v : Expr} {o' v' : E} {apos cpos : Pos} (hK : X.K = g.K) (ho : Sd g X o o') (hv : Sd g X v v') (hbase : attributeBase o "append" X.env (eval o X.env) = eval o X.env := by rfl)
    (hfew : ((backTo cpos (starEach [v] X.env)).all (fun x => !x.1) && (backToKw cpos (keywordEach [] X.env)).all (fun x => x.1.isSome) && decide ([v].length + ([] : List Keyword).length + (if ([] : List Keyword).isEmpty then 0 else 1) < 30)) = true := by rfl)
    (hline : (apos.endLine == cpos.line) = true := by rfl) (hs : starEach [v] X.env = (false, eval v X.env) :: starEach [] X.env := by rfl) : Sd g X (.Call (.Attribute o "append" apos) [v] [] cpos) (.mt .append o' (.cons v' .nil)) :=
  pe_imp (pe_bm PySem.F.plainAttrs_list PySem.F.slot_list_append PySem.F.type_list_append mt_append ho (sdl_cons hv sdl_nil hs) hbase hfew hline hs rfl) fun sg H Q q => by
    obtain ⟨rho, st, env, s, n, q⟩ := q
    simp only [evalE] at q
    refine step s n q fun d st1 x H1 r1 k1 s1 n1 rp q1 => ?_
    split at q1
    · rename_i hl
      have hl : isLst st1 d = true := hl
      cases d with
      | loc m =>
        have hl : ∃ xs, st1[m]? = some (.lst xs) := by
          simp only [isLst] at hl
          split at hl
          · rename_i xs e; exact ⟨xs, e⟩
          · cases hl
        obtain ⟨xs, el⟩ := hl
        obtain ⟨p, vs, hr, hH, rl⟩ := sto_lst s1 el
        obtain ⟨p2, hr2, rfl⟩ := rep_loc.mp rp
        rw [hr] at hr2; cases hr2
        refine ⟨.inl ⟨rfl, vs, SqL.of hH⟩, ?_⟩
        refine stepL s1 n1 q1 fun ds st2 ws H2 r2 k2 s2 n2 rps q2 => ?_
        match ds, q2 with
        | [y], q2 =>
          obtain ⟨w, rfl, rw1⟩ := repL1 rps
          simp only [mtD] at q2
          split at q2
          · rename_i zs ez
            split at q2
            · rename_i hz
              obtain ⟨p3, us, hr3, hH3, rl3⟩ := sto_lst s2 ez
              rw [k2.at hr] at hr3; cases hr3
              have hrep : g.RepL r2 H2 (zs ++ [y]) (us ++ [w]) := rl3.append (by simp only [RepL]; exact ⟨w, [], rfl, rw1, rfl⟩)
              obtain ⟨k3, s3⟩ := s2.wrote (k2.at hr) ez hH3 hrep
              refine ⟨p, us, w, rfl, rfl, hH3, by rw [← rl3.length]; exact hz, ?_⟩
              exact (show Post g rho H Q .non _ from q2) _ _ r2 ((k1.trans k2).trans k3) s3 (rep_non.mpr rfl)
            · exact q2.elim
          · exact q2.elim
        | [], q2 => exact q2.elim
        | _ :: _ :: _, q2 => exact q2.elim
      | _ => cases hl
    · exact q1.elim
end DD
namespace DD
open PySem PySem.Spec L2
open PyProof.Rows hiding St
variable {g : G} {X : Cx} {a b c : Expr} {a' b' c' : E} {pos : Pos} {rest es : List Expr} {es' : Es} {F : Nat}
abbrev G.with (g : G) (E : XK) : G := { g with xk := E }
end DD
namespace DD
open PySem PySem.Spec L2
open PyProof.Rows hiding St
structure FunD (K : PySem.W.Frag) (x qual : Str) (st : Stmt) (f : Addr) (fd : FuncData) : Prop where
 ex : ∃ (oc : Value) (od : Option Addr) (dV kV doc pm : Value) (an : Option Addr) (cdv ct : Value) (osl : Array (Option Value)),
  fd = PySem.W.fnOf x qual (defArgs st) (defBody st) (defScope st) dV kV doc pm an cdv ct ∧ K.lookup f = some ⟨oc, od, .func fd, osl⟩ ∧ PySem.W.codeIn K cdv qual = true
 kp : PySem.W.keepIn K (.ref f) = true
theorem fund_mk {K : PySem.W.Frag} {x qual : Str} {st : Stmt} {f : Addr} {oc : Value} {od an : Option Addr} {osl : Array (Option Value)} {dV kV doc pm cdv ct : Value} (l : K.lookup f = some ⟨oc, od, .func (PySem.W.fnOf x qual (defArgs st) (defBody st) (defScope st) dV kV doc pm an cdv ct), osl⟩)
    (c : PySem.W.codeIn K cdv qual = true) (k : PySem.W.keepIn K (.ref f) = true) : FunD K x qual st f (PySem.W.fnOf x qual (defArgs st) (defBody st) (defScope st) dV kV doc pm an cdv ct) := ⟨⟨oc, od, dV, kV, doc, pm, an, cdv, ct, osl, rfl, l, c⟩, k⟩
section
variable {P : Program} {w : World} {K : PySem.W.Frag} {mg : Str → Option Value} {base : Heap} {cls : CW} {tab : Nat → Ty → Option Bool} {fns : List Fn} {FF : Nat}
abbrev cxD (P : Program) (w : World) (K : PySem.W.Frag) (mg : Str → Option Value) (base : Heap) (N : List Str) (qual : Str) (st : Stmt) (f : Addr) (cdv : Value) (A : Around) (outer : List PySem.Env) (s : Shared) (H : Hp) (E : XK) : Cx := cxOf (CXd P w) P w K mg base N qual (defScope st) f cdv A outer s H E
theorem env_start {rho : List Addr} {H : Hp} : ∀ {ds : List D} {vs : List V}, RepL K rho H ds vs → ∀ (i : Nat) (d : D), (ds.map some)[i]? = some (some d) → ∃ v, (vs.map some)[i]? = some (some v) ∧ Rep K rho H d v := fun {ds vs} r i d e => by
 rw [List.getElem?_map] at e
 cases z : ds[i]? with
 | none => rw [z] at e; cases e
 | some y =>
  rw [z] at e; cases e
  obtain ⟨v, h1, h2⟩ := r.get z
  exact ⟨v, by rw [List.getElem?_map, h1]; rfl, h2⟩
theorem fn_step {x qual : Str} {st : Stmt} {f : Addr} {fd : FuncData} {N ps : List Str} {m n fi : Nat} {body' : Ss} (F : FunD K x qual st f fd) (S : FnScope N ps (defScope st)) (hf : fns[fi]? = some ⟨ps.length, N.length, body'⟩)
    (hb : ∀ (cdv : Value) (A : Around) (outer : List PySem.Env) (s : Shared) (H : Hp) (E : XK), Room m (A.deeper (envOfC qual (defScope st) s.heap.objs.size f cdv)) → SdSs ⟨K, cls, tab, callD tab fns FF n, E⟩ (cxD P w K mg base N qual st f cdv A outer s H E) FF (defBody st) body') :
    FnOk P w K mg base (CXd P w) (m + 1) f fd ps (spD K cls ps.length (callD tab fns FF (n + 1) fi)) := by
  obtain ⟨oc, od, dV, kV, doc, pm, an, cdv, ct, osl, rfl, lk, hcd⟩ := F.ex
  refine fn_of lk hcd S (fun vs H Q E h => h.1) fun A outer s H vs Q E hr hsp => ?_
  obtain ⟨hl, rho, st1, ds, s1, rl, q⟩ := hsp
  refine ⟨_, hb cdv A outer s H E hr, ?_⟩
  have hdl := rl.length
  have hpn : ps.length ≤ N.length := by have := congrArg List.length S.pre; rw [List.length_take] at this; omega
  have e0 : callD tab fns FF (n + 1) fi ds st1 = fin (execSs tab (callD tab fns FF n) FF body' (ds.map some ++ List.replicate (N.length - ps.length) none) st1) := by
    show (match fns[fi]? with
      | some fn => if ds.length = fn.np ∧ fn.np ≤ fn.nl then fin (execSs tab (callD tab fns FF n) FF fn.body (ds.map some ++ List.replicate (fn.nl - fn.np) none) st1) else .bad
      | none => .bad) = _
    rw [hf]
    simp only
    rw [if_pos ⟨by omega, hpn⟩]
  rw [e0] at q
  refine ⟨rho, st1, ds.map some ++ List.replicate (N.length - ps.length) none, s1, ⟨?_, fun i d e => ?_⟩, ?_⟩
  · unfold L2.start
    simp [hdl, hl]
  · unfold L2.start
    by_cases hi : i < ds.length
    · rw [List.getElem?_append_left (by simpa using hi)] at e
      obtain ⟨v, h1, h2⟩ := env_start rl i d e
      exact ⟨v, by rw [List.getElem?_append_left (by simp; omega)]; exact h1, h2⟩
    · rw [List.getElem?_append_right (by simpa using hi), List.getElem?_replicate] at e
      split at e <;> cases e
  · revert q
    unfold fin
    cases execSs tab (callD tab fns FF n) FF body' (ds.map some ++ List.replicate (N.length - ps.length) none) st1 with
    | bad => exact fun q => q
    | exc c st2 => exact fun q => q
    | ok f st2 =>
      simp only [bind_ok]
      cases f with
      | next env2 => exact fun q sg H' rho' k s' n' => q _ H' rho' k s' (by simp [Rep])
      | ret d => exact fun q => q
      | brk env2 => exact fun q => q.elim
      | cont env2 => exact fun q => q.elim
theorem fn_zero {f : Addr} {fd : FuncData} {ps : List Str} {fi : Nat} : FnOk P w K mg base (CXd P w) 0 f fd ps (spD K cls ps.length (callD tab fns FF 0 fi)) := by
 refine ⟨fun vs H Q E h => h.1, fun A outer s H args us vs Q E _ _ _ _ h => ?_⟩
 obtain ⟨_, rho, st1, ds, s1, rl, q⟩ := h
 exact q.elim
theorem callD_len {n fi np nl : Nat} {body' : Ss} (hf : fns[fi]? = some ⟨np, nl, body'⟩) : ∀ ds st, ds.length ≠ np → callD tab fns FF n fi ds st = .bad := fun ds st h => by
 cases n with
 | zero => rfl
 | succ n =>
  show (match fns[fi]? with
   | some fn => if ds.length = fn.np ∧ fn.np ≤ fn.nl then fin (execSs tab (callD tab fns FF n) FF fn.body (ds.map some ++ List.replicate (fn.nl - fn.np) none) st) else .bad
   | none => .bad) = _
  rw [hf]
  simp only
  rw [if_neg (fun z => h z.1)]
end
end DD
namespace DD
open PySem PySem.Spec L2
variable {g : G} {X : Cx} {a b c : Expr} {a' b' c' : E} {pos : Pos} {rest es : List Expr} {es' : Es} {F : Nat}
end DD
namespace DD
open PySem PySem.Spec L2
variable {g : G} {X : Cx} {a b c : Expr} {a' b' c' : E} {pos : Pos} {rest es : List Expr} {es' : Es} {F : Nat}
theorem RepL.drop {rho : List Addr} {H : Hp} : ∀ {ds : List D} {vs : List V} (n : Nat), g.RepL rho H ds vs → g.RepL rho H (ds.drop n) (vs.drop n)
 | ds, vs, 0, r => by simpa using r
 | [], vs, n + 1, r => by simp only [DD.RepL] at r; subst r; simp [DD.RepL]
 | d :: t, vs, n + 1, r => by
  simp only [DD.RepL] at r
  obtain ⟨v, w, rfl, _, r2⟩ := r
  simpa using RepL.drop n r2
theorem RepL.take {rho : List Addr} {H : Hp} : ∀ {ds : List D} {vs : List V} (n : Nat), g.RepL rho H ds vs → g.RepL rho H (ds.take n) (vs.take n)
 | ds, vs, 0, r => by simp [DD.RepL]
 | [], vs, n + 1, r => by simp only [DD.RepL] at r; subst r; simp [DD.RepL]
 | d :: t, vs, n + 1, r => by
  simp only [DD.RepL] at r
  obtain ⟨v, w, rfl, r1, r2⟩ := r
  simp only [List.take_succ_cons, DD.RepL]
  exact ⟨v, _, rfl, r1, RepL.take n r2⟩
theorem RepL.cut {rho : List Addr} {H : Hp} {ds : List D} {vs : List V} (r : g.RepL rho H ds vs) (lo hi : Option Int) : g.RepL rho H (cutD ds lo hi) (cutV vs lo hi) := by
 unfold cutD cutV
 rw [r.length]
 exact RepL.take _ (RepL.drop _ r)
def rSlTw (K : PySem.W.Frag) : V → Option Int → Option Int → Hp → VK → Prop := fun x lo hi H Q => ∃ a xs, x = .ref a ∧ SqT K H a xs ∧ HT.sIx xs.length 0 lo = 0 ∧ HT.sIx xs.length xs.length hi = xs.length ∧ Q x H
section
open PyProof.Rows hiding St RelV
open PySem.SeqAt
open PySem.MeetsSeq PySem.MeetsSeq2 PySem.MeetsSeq3
theorem tuple_whole {prog : Program} {w : World} {A : Around} {E : Value → Shared → Prop} {s : Shared} {t sl : Addr} {items : Array Value} {vl vu : Value} {lo hi : Option Int} {Q : Value → Shared → Prop} (ht : IsTup s.heap t items) (hs : s.heap.IsSliceOf sl vl vu .none) (pl : IsPart vl lo) (pu : IsPart vu hi)
    (h1 : HT.sIx items.size 0 lo = 0) (h2 : HT.sIx items.size items.size hi = items.size) (h : Q (.ref t) s) : wpAny (model prog w) A (getItem (.ref t) (.ref sl)) Q E s := by
  obtain ⟨os, hos, hcs, hds⟩ := id hs
  have hTs : s.TypeIs (.ref sl) "slice" := ⟨os, hos, hcs⟩
  unfold getItem
  try with_reducible refine wpAny_holding ?_
  first | refine wpAny_bind (wpAny_pure ?_) | skip
  refine wpAny_bind (wpAny_sequenceKey ht.typeIs (by decide) ?_)
  refine wpAny_bind (wpAny_callSpecial?_slot (name := Str.ofString "__getitem__") ht.typeIs PyProof.Rows.slot_tuple_getitem
    (wpAny_call_entry PyProof.Rows.slot_tuple_getitem ht.typeIs entry_tuple_getitem ?_ (args_tuple_getitem _ _)))
  show wpAny _ _ (Builtin.Tuple.tupleItemsOf (.ref t) >>= _) _ _ s
  refine wpAny_bind (tupleItemsOf_ ht ?_)
  refine wpAny_bind (wpAny_typeOf hTs ?_)
  rw [if_pos (by decide)]
  refine wpAny_bind (HT.sliceApplied_gen hs pl pu ?_)
  show wpAny _ _ (if (((HT.sIx items.size 0 lo : Nat) : Int) == 0 && (1 : Int) == 1 && (HT.sIx items.size items.size hi - HT.sIx items.size 0 lo) == items.size) = true then _ else _) _ _ s
  rw [if_pos (by rw [h1, h2]; simp)]
  refine wpAny_bind (m := Builtin.Tuple.tupleIsExact (.ref t)) ?_
  unfold Builtin.Tuple.tupleIsExact
  refine wpAny_bind (wpAny_typeOf ht.typeIs (wpAny_pure ?_))
  rw [if_pos (by decide)]
  exact wpAny_bind (wpAny_rule (wpAny_pure ⟨_, rfl, wpAny_pure h⟩))
end
theorem sl_tupW : SlR X (rSlTw X.K) := by
 intro pins s sg H x v vl vu lo hi sl Q I rx hs pl pu h
 obtain ⟨a, xs, rfl, hx, h1, h2, q⟩ := h
 cases rx
 obtain ⟨its, r, ht, hz⟩ := I.tuple hx
 have hlen : its.toArray.size = xs.length := by rw [List.size_toArray]; exact r.length.symm
 exact ⟨"tuple", _, PyProof.Rows.slot_tuple_getitem.lookup, ht.typeIs, tuple_whole ht hs pl pu (by rw [hlen]; exact h1) (by rw [hlen]; exact h2) ⟨.ref a, H, I, rfl, q⟩⟩
def rSlL (K : PySem.W.Frag) : V → Option Int → Option Int → Hp → VK → Prop := fun x lo hi H Q => ∃ a xs, x = .ref a ∧ SqL K H a xs ∧ ∀ p, H p = none → Q (.ref p) (upd H p (.lst (cutV xs lo hi)))
theorem pick_cut (its : List Value) (lo hi : Option Int) : slicePick its.toArray lo hi none = ((its.drop (HT.sIx its.length 0 lo)).take (HT.sIx its.length its.length hi - HT.sIx its.length 0 lo)).toArray := by
 have c : ∀ (n d : Nat) (o : Option Int), o.elim d (clipAt n) = HT.sIx n d o := fun n d o => by
  cases o with
  | none => rfl
  | some v =>
   show clipAt n v = if v < 0 then (v + (n : Int)).toNat else min v.toNat n
   unfold clipAt
   split <;> omega
 rw [slicePick_plain, c, c]
 simp
theorem sl_list : SlR X (rSlL X.K) := by
 intro pins s sg H x v vl vu lo hi sl Q I rx hs pl pu h
 obtain ⟨a, xs, rfl, hx, q⟩ := h
 cases rx
 obtain ⟨its, r, hl, hz⟩ := I.list hx
 have hlen := r.length
 refine ⟨"list", _, slot_list_getitem.lookup, hl.isList.typeIs, ?_⟩
 refine wpAny_getItem_list_slice hl.isList hs pl pu .none (by simp) ?_ (by rw [List.size_toArray, ← hlen]; exact hz)
 rw [pick_cut]
 refine ⟨.ref s.heap.objs.size, _, I.lnew (t' := s.toks) (ys := cutV xs lo hi) ?_ (Nat.le_trans (cutV_length xs lo hi) hz), rfl, q _ (I.hok.fresh (Nat.le_refl _))⟩
 unfold cutV
 rw [hlen]
 exact (r.drop _).take _
end DD
namespace DD
open PySem PySem.Spec L2
variable {g : G} {X : Cx} {a b c : Expr} {a' b' c' : E} {pos p2 : Pos} {rest es : List Expr} {es' : Es} {F : Nat}
theorem bind_assoc {α β γ : Type} (r : Res α) (f : α → Sto → Res β) (k : β → Sto → Res γ) : (r.bind f).bind k = r.bind fun a st => (f a st).bind k := by cases r <;> rfl
def rSl (K : PySem.W.Frag) : V → Option Int → Option Int → Hp → VK → Prop := fun x lo hi H Q => rSlL K x lo hi H Q ∨ rSlT K x lo hi H Q ∨ rSlTw K x lo hi H Q
theorem sl_any : SlR X (rSl X.K) := sl_list.or (sl_tup.or sl_tupW)
theorem sl_fin (hK : X.K = g.K) {k : Nat} {x : D} {v : V} {ds : List D} {lo hi : Option Int} {st : Sto} {rho : List Addr} {H : Hp} {Q : VK} (hp : slParts k ds = some (lo, hi)) (s : g.Sto rho st H) (rx : g.Rep rho H x v)
    (q : RQ g (slD k x ds st) (Post g rho H Q) rho H) : rSl X.K v lo hi H Q := by
  unfold slD at q
  rw [hp] at q
  simp only at q
  cases x with
  | tup xs =>
    have q : Post g rho H Q (.tup (cutD xs lo hi)) st := q
    obtain ⟨p, vs, rfl, sq, rl⟩ := rep_tup.mp rx
    have sq' : SqT X.K H p vs := by rw [hK]; exact sq
    by_cases w : HT.sIx vs.length 0 lo = 0 ∧ HT.sIx vs.length vs.length hi = vs.length
    · refine .inr (.inr ⟨p, vs, rfl, sq', w.1, w.2, q _ H rho (.refl _ _) s (rep_tup.mpr ⟨p, vs, rfl, sq, ?_⟩)⟩)
      have e : cutD xs lo hi = xs := by
        unfold cutD
        rw [rl.length, w.1, w.2, List.drop_zero, Nat.sub_zero, ← rl.length, List.take_length]
      rw [e]; exact rl
    · refine .inr (.inl ⟨p, vs, rfl, sq', w, fun l hl => ?_⟩)
      have e := same_upd hl (.tup (cutV vs lo hi))
      exact q (.ref l) _ rho (Same.keep e rho) (s.same e) (rep_tup.mpr ⟨l, _, rfl, SqT.of upd_same, (RepL.cut rl lo hi).mono (Same.keep e rho)⟩)
  | loc n =>
    simp only at q
    split at q
    · rename_i xs e
      obtain ⟨p, vs, h1, sq, rl⟩ := sto_seq s e
      obtain ⟨p2, h2, rfl⟩ := rep_loc.mp rx
      rw [h1] at h2; cases h2
      exact .inl ⟨p, vs, rfl, by rw [hK]; exact sq, fun l hl => new_lst s (RepL.cut rl lo hi) hl q⟩
    · exact q.elim
  | _ => exact q.elim
theorem sd_sl1 (hK : X.K = g.K) (ha : Sd g X a a') (hb : Sd g X b b') : Sd g X (.Subscript a (.Slice (some b) none none p2) pos) (.sl 1 a' (.cons b' .nil)) := pe_imp (pe_slice sl_any ha (po_some hb) po_none) fun sg H Q q => by
 obtain ⟨rho, st, env, s, n, q⟩ := q
 simp only [evalE, evalIs, bind_ok, bind_assoc] at q
 refine step s n q fun x st1 v H1 r1 k1 s1 n1 rx q1 => ?_
 refine step s1 n1 q1 fun y st2 u H2 r2 k2 s2 n2 ry q2 => ?_
 cases y with
 | int i => exact ⟨i, rep_int.mp ry, sl_fin hK (k := 1) (ds := [.int i]) rfl s2 (rx.mono k2) (RQ.mono (.refl _ _) q2 fun _ _ p => p.mono (k1.trans k2))⟩
 | _ => exact q2.elim
theorem sd_sl2 (hK : X.K = g.K) (ha : Sd g X a a') (hb : Sd g X b b') : Sd g X (.Subscript a (.Slice none (some b) none p2) pos) (.sl 2 a' (.cons b' .nil)) := pe_imp (pe_slice sl_any ha po_none (po_some hb)) fun sg H Q q => by
 obtain ⟨rho, st, env, s, n, q⟩ := q
 simp only [evalE, evalIs, bind_ok, bind_assoc] at q
 refine step s n q fun x st1 v H1 r1 k1 s1 n1 rx q1 => ?_
 refine step s1 n1 q1 fun y st2 u H2 r2 k2 s2 n2 ry q2 => ?_
 cases y with
 | int i => exact ⟨i, rep_int.mp ry, sl_fin hK (k := 2) (ds := [.int i]) rfl s2 (rx.mono k2) (RQ.mono (.refl _ _) q2 fun _ _ p => p.mono (k1.trans k2))⟩
 | _ => exact q2.elim
theorem sd_sl3 (hK : X.K = g.K) (ha : Sd g X a a') (hb : Sd g X b b') (hc : Sd g X c c') : Sd g X (.Subscript a (.Slice (some b) (some c) none p2) pos) (.sl 3 a' (.cons b' (.cons c' .nil))) := pe_imp (pe_slice sl_any ha (po_some hb) (po_some hc)) fun sg H Q q => by
 obtain ⟨rho, st, env, s, n, q⟩ := q
 simp only [evalE, evalIs, bind_ok, bind_assoc] at q
 refine step s n q fun x st1 v H1 r1 k1 s1 n1 rx q1 => ?_
 refine step s1 n1 q1 fun y st2 u H2 r2 k2 s2 n2 ry q2 => ?_
 cases y with
 | int i =>
  simp only [bind_assoc] at q2
  refine ⟨i, rep_int.mp ry, step s2 n2 q2 fun z st3 w H3 r3 k3 s3 n3 rz q3 => ?_⟩
  cases z with
  | int j => exact ⟨j, rep_int.mp rz, sl_fin hK (k := 3) (ds := [.int i, .int j]) rfl s3 ((rx.mono k2).mono k3) (RQ.mono (.refl _ _) q3 fun _ _ p => p.mono ((k1.trans k2).trans k3))⟩
  | _ => exact q3.elim
 | _ => exact q2.elim
theorem opD_ints {o : Op} {i j : Int} {st : Sto} {z : D} {st' : Sto} (h : opD o (.int i) (.int j) st = .ok z st') : ∃ k, z = .int k ∧ st' = st := by
 cases o <;> simp only [opD] at h <;> (try split at h) <;> first | (cases h; exact ⟨_, rfl, rfl⟩) | cases h
theorem in_addM : PIp X .Add rAdd := fun pins s sg H x y u v Q I rx ry q => in_add pins s sg H x y u v Q I rx ry q
theorem aug_fin {i : Nat} {o : Op} {r : TIp} {sg : L2.St} {H : Hp} {D : Ends} (hr : ∀ x y H Q, (∃ k, opD o (.int x) (.int y) [] = .ok (.int k) [] ∧ Q (.int k) H) → r (.int x) (.int y) H Q)
    (hst : ∀ x y st, opD o (.int x) (.int y) st = match opD o (.int x) (.int y) [] with | .ok z _ => .ok z st | .exc c _ => .exc c st | .bad => .bad)
    (q : tS g F (.aug i o a') D sg H) : tAug i (tE g a') r D sg H := by
  obtain ⟨rho, st, env, s, n, q⟩ := q
  simp only [execS] at q
  cases e : getV env i with
  | none => rw [e] at q; exact q.elim
  | some d =>
    rw [e] at q
    cases d with
    | int x =>
      simp only at q
      have e' : env[i]? = some (some (.int x)) := by
        unfold getV at e
        cases z : env[i]? with
        | none => rw [z] at e; cases e
        | some o => rw [z] at e; cases o with
          | none => cases e
          | some y => cases e; rfl
      obtain ⟨v, e1, r1⟩ := n.val i _ e'
      cases rep_int.mp r1
      refine ⟨_, e1, step s n q fun y st1 w H1 r2 k1 s1 n1 ry q1 => ?_⟩
      cases y with
      | int j =>
        cases rep_int.mp ry
        simp only at q1
        refine hr x j H1 _ ?_
        rw [hst] at q1
        cases ez : opD o (.int x) (.int j) [] with
        | bad => rw [ez] at q1; exact q1.elim
        | exc c t => exfalso; cases o <;> simp only [opD] at ez <;> (try split at ez) <;> cases ez
        | ok z t =>
          rw [ez] at q1
          obtain ⟨k, rfl, rfl⟩ := opD_ints ez
          refine ⟨k, rfl, ?_⟩
          simp only [bind_ok] at q1
          split at q1
          · exact (show PostF g rho H D (.next _) st1 from q1) _ H1 r2 k1 s1 (n1.set i (rep_int.mpr rfl))
          · exact q1.elim
      | _ => exact q1.elim
    | _ => exact q.elim
theorem s_augAdd {i : Nat} {x : Str} {pt : Pos} (hN : X.N.Nodup) (hi : X.N[i]? = some x) (hx : Loc X.env.scope x) (ha : Sd g X a a') (hf : X.fn x = true ∨ X.env.scope.names.lookup x = some .local := by first | exact .inl rfl | exact .inr rfl | assumption) : SdS g X F (.AugAssign (.Name x pt) .Add a pos) (.aug i .add a') :=
 ps_imp (ps_aug hN hi hx ha in_addM hf) fun D sg H q => aug_fin (fun x y H Q ⟨k, e, q⟩ => ⟨x, y, rfl, rfl, by simp only [opD] at e; cases e; exact q⟩) (fun x y st => by simp only [opD]) q
theorem sto_ins {rho : List Addr} {st : Sto} {H : Hp} {n k : Nat} {fs : List (Str × D)} (s : g.Sto rho st H) (h : st[n]? = some (.ins k fs)) : ∃ p dx ws, rho[n]? = some p ∧ H p = some (.ins (g.cls k) dx ws) ∧ ws.length = fs.length ∧ FsRep g.K rho H fs ws := by
 have hl : n < rho.length := by rw [s.len]; exact (List.getElem?_eq_some_iff.mp h).1
 obtain ⟨dx, ws, h1, h2, h3⟩ := s.cells n rho[n] _ (List.getElem?_eq_getElem hl) h
 exact ⟨_, dx, ws, List.getElem?_eq_getElem hl, h1, h2, h3⟩
theorem fs_look {rho : List Addr} {H : Hp} {fs : List (Str × D)} {ws : List (Str × V)} {f : Str} {d : D} (r : FsRep g.K rho H fs ws) (h : fs.lookup f = some d) : ∃ v, ws.lookup f = some v ∧ g.Rep rho H d v := by
 have q := r f
 rw [h] at q
 cases e : ws.lookup f with
 | none => rw [e] at q; exact q.elim
 | some v => rw [e] at q; exact ⟨v, rfl, q⟩
theorem fs_none {rho : List Addr} {H : Hp} {fs : List (Str × D)} {ws : List (Str × V)} {f : Str} (r : FsRep g.K rho H fs ws) (h : fs.lookup f = none) : ws.lookup f = none := by
 have q := r f
 rw [h] at q
 cases e : ws.lookup f with
 | none => rfl
 | some v => rw [e] at q; exact q.elim
theorem sd_fld {f : Str} {k : Nat} (hcl : Cls X.K (g.cls k)) (hna : NoAttr X.K (g.cls k) f) (ha : Sd g X a a') (hb : attributeBase a f X.env (eval a X.env) = eval a X.env := by rfl) : Sd g X (.Attribute a f pos) (.fld k a' f) := pe_imp (pe_fld ha hb) fun sg H Q q => by
 obtain ⟨rho, st, env, s, n, q⟩ := q
 simp only [evalE] at q
 refine step s n q fun x st1 v H1 r1 k1 s1 n1 rx q1 => ?_
 cases x with
 | loc m =>
  simp only at q1
  split at q1
  · rename_i k' fs e
    split at q1
    · rename_i d ed
      split at q1
      · rename_i hk
        subst hk
        obtain ⟨p, dx, ws, h1, h2, _, h3⟩ := sto_ins s1 e
        obtain ⟨p2, h4, rfl⟩ := rep_loc.mp rx
        rw [h1] at h4; cases h4
        obtain ⟨w, e1, rw1⟩ := fs_look h3 ed
        exact ⟨p, g.cls k', dx, ws, w, rfl, h2, hcl, hna, e1, (show Post g rho H Q d st1 from q1) _ H1 r1 k1 s1 rw1⟩
      · exact q1.elim
    · exact q1.elim
  · exact q1.elim
 | _ => exact q1.elim
theorem putFD_look (f h : Str) (v : D) : ∀ fs : List (Str × D), (putFD f v fs).lookup h = if h = f then some v else fs.lookup h
 | [] => by
  by_cases e : h = f
  · subst e; simp [putFD]
  · simp [putFD, List.lookup, e]; simp [beq_eq_false_iff_ne.mpr e]
 | (k, x) :: r => by
  unfold putFD
  by_cases ek : k = f
  · subst ek
    rw [if_pos rfl]
    by_cases e : h = k
    · subst e; simp
    · simp [List.lookup_cons, beq_eq_false_iff_ne.mpr e, e]
  · rw [if_neg ek, List.lookup_cons, List.lookup_cons, putFD_look f h v r]
    by_cases e : h = k
    · subst e; simp [ek]
    · simp [beq_eq_false_iff_ne.mpr e]
theorem putF_len (f : Str) (v : V) (d : D) : ∀ {ws : List (Str × V)} {fs : List (Str × D)} {rho : List Addr} {H : Hp}, ws.length = fs.length → (ws.lookup f = none ↔ fs.lookup f = none) → (putF f v ws).length = (putFD f d fs).length := by
 have l1 : ∀ ws : List (Str × V), (putF f v ws).length = if ws.lookup f = none then ws.length + 1 else ws.length := by
  intro ws
  induction ws with
  | nil => simp [putF]
  | cons p r ih =>
   obtain ⟨k, x⟩ := p
   unfold putF
   by_cases ek : k = f
   · subst ek; simp
   · have : (f == k) = false := beq_eq_false_iff_ne.mpr (Ne.symm ek)
     rw [if_neg ek, List.length_cons, ih, List.lookup_cons, this]
     split <;> simp_all
 have l2 : ∀ ws : List (Str × D), (putFD f d ws).length = if ws.lookup f = none then ws.length + 1 else ws.length := by
  intro ws
  induction ws with
  | nil => simp [putFD]
  | cons p r ih =>
   obtain ⟨k, x⟩ := p
   unfold putFD
   by_cases ek : k = f
   · subst ek; simp
   · have : (f == k) = false := beq_eq_false_iff_ne.mpr (Ne.symm ek)
     rw [if_neg ek, List.length_cons, ih, List.lookup_cons, this]
     split <;> simp_all
 intro ws fs rho H hl hi
 rw [l1, l2, hl]
 by_cases e : fs.lookup f = none
 · rw [if_pos e, if_pos (hi.mpr e)]
 · rw [if_neg e, if_neg (fun z => e (hi.mp z))]
theorem fs_put {rho : List Addr} {H : Hp} {fs : List (Str × D)} {ws : List (Str × V)} {f : Str} {d : D} {v : V} (r : FsRep g.K rho H fs ws) (rv : g.Rep rho H d v) : FsRep g.K rho H (putFD f d fs) (putF f v ws) := fun h => by
 rw [putFD_look, lookup_putF]
 by_cases e : h = f
 · rw [if_pos e, if_pos e]; exact rv
 · rw [if_neg e, if_neg e]; exact r h
theorem s_setf {o : Expr} {o' : E} {f : Str} {k : Nat} {pt : Pos} (hcl : Cls X.K (g.cls k)) (hna : NoAttr X.K (g.cls k) f) (ho : Sd g X o o') (ha : Sd g X a a') (hs : swapsWith a (some (.Attribute o f pt)) pos.line X.env = pure false := by rfl) : SdS g X F (.Assign [.Attribute o f pt] a pos) (.setf k o' f a') := ps_imp (ps_fld ho ha hs) fun D sg H q => by
 obtain ⟨rho, st, env, s, n, q⟩ := q
 simp only [execS] at q
 refine step s n q fun y st1 v H1 r1 k1 s1 n1 ry q1 => ?_
 refine step s1 n1 q1 fun x st2 u H2 r2 k2 s2 n2 rx q2 => ?_
 cases x with
 | loc m =>
  simp only at q2
  split at q2
  · rename_i k' fs e
    split at q2
    · rename_i hk
      obtain ⟨hl9, rfl⟩ := hk
      obtain ⟨p, dx, ws, h1, h2, hlen, h3⟩ := sto_ins s2 e
      obtain ⟨p2, h4, rfl⟩ := rep_loc.mp rx
      rw [h1] at h4; cases h4
      refine ⟨p, g.cls k', dx, ws, rfl, h2, hcl, hna, by omega, ?_⟩
      have rv := ry.mono k2
      have hiff : ws.lookup f = none ↔ fs.lookup f = none := by
       have z := h3 f
       cases e1 : fs.lookup f <;> cases e2 : ws.lookup f <;> rw [e1, e2] at z <;> first | exact z.elim | simp
      obtain ⟨k3, s3⟩ := s2.wroteC (o := .ins (g.cls k') dx (putF f v ws)) (c1 := .ins k' (putFD f y fs)) h1 e rfl h2 ⟨fun _ => nofun, fun _ _ => nofun⟩ fun H3 eH kk => ⟨dx, _, eH, putF_len (rho := r2) (H := H2) f v y hlen hiff, (fs_put h3 rv).mono kk⟩
      exact (show PostF g rho H D (.next env) _ from q2) _ _ r2 ((k1.trans k2).trans k3) s3 (n2.mono k3)
    · exact q2.elim
  · exact q2.elim
 | _ => exact q2.elim
end DD
namespace DD
open PySem PySem.Spec L2
variable {g : G} {X : Cx} {a b c : Expr} {a' b' c' : E} {pos apos : Pos} {rest es : List Expr} {es' : Es} {F : Nat}
theorem sp_of {np f : Nat} {ds : List D} {vs : List V} {st : Sto} {rho : List Addr} {H : Hp} {Q : VK} (hl : ∀ ds st, ds.length ≠ np → g.call f ds st = .bad) (s : g.Sto rho st H) (r : g.RepL rho H ds vs) (q : RQ g (g.call f ds st) (Post g rho H Q) rho H) : spD g.K g.cls np (g.call f) vs H Q g.xk := by
 have hlen : ds.length = np := Decidable.byContradiction fun z => by rw [hl _ _ z] at q; exact q
 refine ⟨by rw [← r.length]; exact hlen, rho, st, ds, s, r, ?_⟩
 revert q
 cases g.call f ds st with
 | ok d st' => exact fun q => q
 | exc c st' => exact fun q => q
 | bad => exact fun q => q
theorem meth_in {c f : Nat} {m : Str} {fa : Addr} {o' : E} {np : Nat} {sg : L2.St} {H : Hp} {Q : VK} {t : TA} (hl : ∀ ds st, ds.length ≠ np → g.call f ds st = .bad)
    (ht : ∀ {rho st env H K}, g.Sto rho st H → g.Env rho H env sg → RQ g ((evalEs g.tab g.call es' env st).bind K) (Post g rho H Q) rho H → True) (q : tE g (.meth c f m o' es') sg H Q) :
    (tE g o' sg H fun x H1 => ∃ p dx ws, x = .ref p ∧ H1 p = some (.ins (g.cls c) dx ws) ∧ ws.lookup m = none ∧ tEs g es' sg H1 fun vs H2 => spD g.K g.cls np (g.call f) (x :: (vs ++ [])) H2 Q g.xk) := by
  obtain ⟨rho, st, env, s, n, q⟩ := q
  simp only [evalE] at q
  refine step s n q fun x st1 v H1 r1 k1 s1 n1 rx q1 => ?_
  cases x with
  | loc j =>
    simp only at q1
    split at q1
    · rename_i c' fs e
      split at q1
      · rename_i hc
        obtain ⟨rfl, hn⟩ := hc
        obtain ⟨p, dx, ws, h1, h2, _, h3⟩ := sto_ins s1 e
        have rx' := rx
        obtain ⟨p2, h4, rfl⟩ := rep_loc.mp rx
        rw [h1] at h4; cases h4
        refine ⟨p, dx, ws, rfl, h2, fs_none h3 hn, stepL s1 n1 q1 fun ds st2 vs H2 r2 k2 s2 n2 rps q2 => ?_⟩
        rw [List.append_nil]
        exact sp_of hl s2 (by simp only [RepL]; exact ⟨_, _, rfl, rx'.mono k2, rps⟩) (RQ.mono (.refl _ _) q2 fun _ _ p => p.mono (k1.trans k2))
      · exact q1.elim
    · exact q1.elim
  | _ => exact q1.elim
theorem sd_meth {cc k f : Nat} {m : Str} {fa : Addr} {fd : FuncData} {ps : List Str} {o e : Expr} {o' : E} {np : Nat} {pl : Sem Bool} (hcl : Cls X.K (g.cls cc)) (hm : Meth X.K (g.cls cc) m fa)
    (Fn : FnOk X.prog X.w X.K X.mg X.base (CXd X.prog X.w) k fa fd ps (spD g.K g.cls np (g.call f))) (hr : Room k X.A) (hb : Binds X.K fd ps []) (hx : Passes (CXd X.prog X.w) X g.xk) (hl : ∀ ds st, ds.length ≠ np → g.call f ds st = .bad)
    (ho : Sd g X o o') (ha : SdL g X (e :: es) es') (hst : starEach (e :: es) X.env = (false, eval e X.env) :: starEach es X.env := by rfl) (hpl : (backTo pos (starEach es X.env)).any (·.1) = false := by rfl)
    (ht : eval (.Call (.Attribute o m apos) (e :: es) [] pos) X.env = (do
      let ov ← eval o X.env
      standAt apos.atName
      let (f, first) ← holding [ov] (getMethod ov m pl)
      callWith pos f first (backTo pos (starEach (e :: es) X.env)) (backToKw pos (keywordEach [] X.env))) := by rfl) :
    Sd g X (.Call (.Attribute o m apos) (e :: es) [] pos) (.meth cc f m o' es') :=
  pe_imp (pe_meth (dvs := []) (ds := []) ho hcl hm Fn hr hb .nil hx ha hst hpl ht) fun sg H Q q => meth_in (fa := fa) (t := fun _ _ _ => True) hl (fun _ _ _ => trivial) q
theorem make_in {cc f : Nat} {np : Nat} {ds : List D} {vs : List V} {st : Sto} {rho : List Addr} {H : Hp} {Q : VK} (hl : ∀ ds st, ds.length ≠ np → g.call f ds st = .bad) (s : g.Sto rho st H) (r : g.RepL rho H ds vs)
    (q : RQ g ((g.call f (.loc st.length :: ds) (st ++ [.ins cc []])).bind fun r st' => match r with | .non => .ok (.loc st.length) st' | _ => .bad) (Post g rho H Q) rho H) :
    ∀ x dx, H x = none → H dx = none → dx ≠ x → spD g.K g.cls np (g.call f) (.ref x :: (vs ++ [])) (upd (upd H dx (.own x)) x (.ins (g.cls cc) dx [])) (fun v H2 => v = .non ∧ Q (.ref x) H2) g.xk := by
  intro x dx hx hdx hne
  have e1 := same_upd hdx (.own x)
  have s1 := s.same e1
  have hx1 : upd H dx (.own x) x = none := by rw [upd_ne (Ne.symm hne)]; exact hx
  obtain ⟨k2, s2⟩ := s1.laid hx1 (o := .ins (g.cls cc) dx []) (c := .ins cc []) ⟨dx, [], upd_same, rfl, fun f => trivial⟩
  have kk := (Same.keep e1 rho).trans k2
  rw [List.append_nil]
  refine sp_of hl s2 (ds := .loc st.length :: ds) (by simp only [RepL]; exact ⟨_, _, rfl, rep_loc.mpr ⟨x, by rw [← s.len]; simp, rfl⟩, r.mono kk⟩) ?_
  revert q
  cases g.call f (.loc st.length :: ds) (st ++ [.ins cc []]) with
  | bad => exact fun q => q
  | exc c st' => exact fun q H' rho' k s' => q H' rho' (kk.trans k) s'
  | ok d st' =>
    simp only [bind_ok]
    cases d with
    | non =>
      intro q v H' rho' k s' rv
      refine ⟨rep_non.mp rv, (show Post g rho H Q (.loc st.length) st' from q) _ H' rho' (kk.trans k) s' (rep_loc.mpr ⟨x, k.at ?_, rfl⟩)⟩
      rw [← s.len]; simp
    | _ => exact fun q => q.elim
theorem sd_mk0 {cc k f : Nat} {x : Str} {fa : Addr} {fd : FuncData} {ps : List Str} {np : Nat} {p : Pos} (M : Mk X.K (g.cls cc) fa) (Fn : FnOk X.prog X.w X.K X.mg X.base (CXd X.prog X.w) k fa fd ps (spD g.K g.cls np (g.call f))) (hr : Room (k + 1) X.A) (hg : Gl X x) (hm : X.mg x = some (.ref (g.cls cc)))
    (hb : Binds X.K fd ps []) (hx : Passes (CXd X.prog X.w) X g.xk) (hl : ∀ ds st, ds.length ≠ np → g.call f ds st = .bad) (hdb : (x == ("__debug__" : Str)) = false := by decide) :
    Sd g X (.Call (.Name x p) [] [] pos) (.mk cc f .nil) := pe_imp (pe_make0 (dvs := []) (ds := []) M Fn hr hg hm hb .nil hx hdb) fun sg H Q q => by
  obtain ⟨rho, st, env, s, n, q⟩ := q
  simp only [evalE, evalEs, bind_ok] at q
  exact make_in (vs := []) hl s (by simp [RepL]) q
end DD
namespace DD
open PySem PySem.Spec L2
variable {g : G} {X : Cx} {a b c : Expr} {a' b' c' : E} {pos apos cpos : Pos} {rest es : List Expr} {es' : Es} {F : Nat}
end DD
namespace DD
open PySem PySem.Spec L2
open PyProof.Rows hiding St RelV
variable {g : G} {X : Cx} {pos : Pos} {F : Nat}
noncomputable def tIfs (g : G) (e : Es) : TT := fun sg H Q => ∃ rho st env, g.Sto rho st H ∧ g.Env rho H env sg ∧ RQ g (evalIfs g.tab g.call e env st) (PostB g rho H Q) rho H
def PTs (X : Cx) (ifs : List Expr) (t : TT) : Prop := ∀ (pins : List (Addr × Obj)) (s : Shared) (sg : L2.St) (H : Hp) (Q : Bool → Hp → Prop), Inv X pins sg H s → t sg H Q →
 wpAny (model X.prog X.w) X.A (forIn ifs true fun c r => if r = true then do let ok ← isTrue c X.env (eval c X.env); pure (ForInStep.yield ok) else pure (ForInStep.yield r)) (TP X pins sg Q) X.xe s
theorem pts_nil : PTs X [] (tIfs g .nil) := fun pins s sg H Q I q => by
 obtain ⟨rho, st, env, S, n, q⟩ := q
 simp only [evalIfs] at q
 exact wpAny_tests_nil ⟨H, I, (show PostB g rho H Q true st from q) H rho (.refl _ _) S⟩
theorem pts_one {c : Expr} {c' : E} (h : SdT g X c c') : PTs X [c] (tIfs g (.cons c' .nil)) := fun pins s sg H Q I q => by
 refine wpAny_tests_one (h pins s sg H Q I ?_)
 obtain ⟨rho, st, env, S, n, q⟩ := q
 refine ⟨rho, st, env, S, n, ?_⟩
 simp only [evalIfs] at q
 revert q
 cases evalT g.tab g.call c' env st with
 | bad => exact fun q => q
 | exc k st1 => exact fun q => q
 | ok b st1 => simp only [bind_ok]; cases b <;> exact fun q => q
abbrev envG (X : Cx) (scope : Scope) (cl : List (Str × Addr)) (L : Addr) : PySem.Env := { newEnv scope L X.env.globals cl X.env.qual none .none (some X.env) builtinsNs with scope := relabel scope X.env }
abbrev cxG (X : Cx) (N : List Str) (scope : Scope) (cl : List (Str × Addr)) (L : Addr) (s0 : Shared) (H0 : Hp) (fp : List Addr) (pn : List (Addr × Obj)) : Cx :=
 { X with N := N, s₀ := s0, H₀ := H0, env := envG X scope cl L, outer := X.stack, stack := X.stack, ex := fp, fn := fun x => (cl.lookup x).isNone, pn := pn, xe := fun _ _ => False }
theorem fp_stkG {pins : List (Addr × Obj)} {sg : L2.St} {H H2 : Hp} {s : Shared} (I : L2.Inv X pins sg H s) {b : Addr} (h : FpOk X pins H2 b) : b ∉ frs X.stack := fun hm => by
 rcases List.mem_cons.mp (I.stkSub b hm) with z | z
 · exact h.2.1 z
 · exact h.2.2.1 z
structure Clos (X : Cx) (scope : Scope) (cl : List (Str × Addr)) : Prop where
 sub : ∀ x c, cl.lookup x = some c → X.env.cells.lookup x = some c
 has : ∀ x, ((relabel scope X.env).names.lookup x = some .cell ∨ (relabel scope X.env).names.lookup x = some .free) → ∃ c, cl.lookup x = some c
theorem compG_in {pins : List (Addr × Obj)} {sg : L2.St} {H : Hp} {s3 : Shared} {N : List Str} {nl : Nat} {fv : List Nat} {scope : Scope} {cl : List (Str × Addr)} {fp : List Addr} {h1 : Heap} {m : Str → Option Value} {tk : Nat} (hkind : scope.kind = .function) (C : Clos X scope cl)
    (hN : N.length = nl + fv.length) (hfv : ∀ j k, fv[j]? = some k → ∃ x c, N[nl + j]? = some x ∧ X.N[k]? = some x ∧ cl.lookup x = some c ∧ (X.env.scope.names.lookup x = some .cell ∨ X.env.scope.names.lookup x = some .free) ∧ ((relabel scope X.env).names.lookup x = some .cell ∨ (relabel scope X.env).names.lookup x = some .free))
    (I : L2.Inv X pins sg H s3) (hfp : ∀ b ∈ fp, FpOk X pins H b ∧ b < s3.heap.objs.size) (hn : h1.Ns s3.heap.objs.size m) (hk : ∀ b o, s3.heap.get? b = some o → h1.get? b = some o) :
    L2.Inv (cxG X N scope cl s3.heap.objs.size s3 H fp (X.pn ++ pins)) [] (List.replicate nl none ++ fv.map fun k => (sg[k]?).join) H { s3 with heap := h1, toks := tk } := by
  have fsF : ∀ b, b < s3.heap.objs.size → b ≠ s3.heap.objs.size := fun b h z => by rw [z] at h; exact Nat.lt_irrefl _ h
  refine ⟨⟨I.ok.mod, hkind, I.ok.glob, I.ok.blt, Nat.le_refl _, fun x y c h1 h2 => I.ok.inj x y c (C.sub x c h1) (C.sub y c h2), fun y hy => C.has y hy, fun y c hy h => ?_, I.ok.hd, I.ok.frames, .inl rfl, fun b hb => ⟨fsF b (hfp b hb).2, fun y c h => (hfp b hb).1.2.2.2.2.1 y c (C.sub y c h)⟩, I.bs, Nat.le_trans I.ok.bsz I.sz, fun b o e hb => ?_, fun b hb => fp_stkG I (hfp b hb).1, I.stack, I.stkFree⟩,
    rfl, I.bare, Un.kept hk, ⟨m, hn, fun i y v e1 e2 _ => ?_⟩, fun y c h => ?_, I.hok.fresh (Nat.le_refl _), fun y c h => I.freeC y c (C.sub y c h), fun p hp => ?_, I.hok.kept hk, ?_⟩
  · have h : cl.lookup y = some c := h
    have hy : (cl.lookup y).isNone = true := hy
    rw [h] at hy; cases hy
  · obtain ⟨f, _⟩ := hfp b hb
    rcases f.2.2.2.1 with z | z
    · exact I.ok.noex b o e z
    · exact absurd (Nat.lt_of_lt_of_le (Heap.lt_size e) (Nat.le_trans I.ok.bsz z)) (Nat.lt_irrefl _)
  · by_cases hi : i < nl
    · rw [List.getElem?_append_left (by simpa using hi), List.getElem?_replicate] at e2
      split at e2 <;> cases e2
    · rw [List.getElem?_append_right (by simp; omega)] at e2
      simp only [List.length_replicate, List.getElem?_map] at e2
      cases ek : fv[i - nl]? with
      | none => rw [ek] at e2; cases e2
      | some k =>
        rw [ek] at e2
        simp only [Option.map_some, Option.some.injEq] at e2
        obtain ⟨x, c, n1, n2, n3, n4, n5⟩ := hfv _ k ek
        have ei : nl + (i - nl) = i := by omega
        rw [ei] at n1
        have e1 : N[i]? = some y := e1
        rw [n1] at e1; cases e1
        have e3 : sg[k]? = some (some v) := by
          cases z : sg[k]? with
          | none => rw [z] at e2; cases e2
          | some o => rw [z] at e2; cases o with
            | none => cases e2
            | some w => cases e2; rfl
        obtain ⟨m0, hm0, hl⟩ := I.loc
        obtain ⟨u, ru, lk⟩ := hl k _ v n2 e3 (by rcases n4 with z | z; exact .inr (.inl z); exact .inr (.inr z))
        refine ⟨u, ru, .inr ⟨n5, c, n3, ?_⟩⟩
        rcases lk with ⟨k1, _⟩ | ⟨_, c2, k2, k3⟩
        · have k1 : X.env.scope.names.lookup y = some .local := k1
          rcases n4 with z | z <;> (rw [z] at k1; cases k1)
        · rw [C.sub _ c n3] at k2; cases k2
          obtain ⟨o, ho, hd⟩ := k3
          exact ⟨o, hk _ _ ho, hd⟩
  · obtain ⟨v, o, ho, hd⟩ := I.cell y c (C.sub y c h)
    exact ⟨v, o, hk _ _ ho, hd⟩
  · rw [List.append_nil] at hp
    obtain ⟨p1, p2, p3, p4, p5⟩ := I.pin p hp
    refine ⟨hk _ _ p1, p2, fsF _ (Heap.lt_size p1), fun hm => ?_, p5⟩
    rcases List.mem_cons.mp (I.stkSub p.1 hm) with z | z
    · exact p3 z
    · exact p4 z
  · show (List.replicate nl none ++ fv.map _).length = N.length
    simp [hN]
theorem compLoop_ifs {prog : Program} {w : World} {A : Around} {R : Result → Shared → Prop} {s : Shared} {elt target iter : Expr} {ifs : List Expr} {scope : Scope} {it acc : Value} {env : PySem.Env} (I : Nat → Shared → Prop)
    (turn : ∀ n s, I n s → wpAny (model prog w) A (pyNext it) (fun r s₁ => match r with
      | none => R (.ok .next) s₁
      | some v => wpAny (model prog w) A (letOwnedTupleGo target it v) (fun _ s₁ => wpAny (model prog w) A (assign target env v) (fun _ s₂ =>
          wpAny (model prog w) A (forIn ifs true fun c r => if r = true then do let ok ← isTrue c env (eval c env); pure (ForInStep.yield ok) else pure (ForInStep.yield r)) (fun ok s₃ =>
            if ok = true then wpAny (model prog w) A (eval elt env) (fun x s₄ =>
              wpAny (model prog w) A (call (.builtin "list.append") [acc, x]) (fun _ s₅ => ∃ m, m < n ∧ I m s₅) (notedBy (model prog w) A env fun e s' => R (.error e) s') s₄) (notedBy (model prog w) A env fun e s' => R (.error e) s') s₃
            else ∃ m, m < n ∧ I m s₃) (notedBy (model prog w) A env fun e s' => R (.error e) s') s₂) (notedBy (model prog w) A env fun e s' => R (.error e) s') s₁) (notedBy (model prog w) A env fun e s' => R (.error e) s') s₁) (notedBy (model prog w) A env fun e s' => R (.error e) s') s)
    (n : Nat) (h : I n s) : codeAny (model prog w) A (.compLoop (.ListComp elt [⟨target, iter, ifs, 0⟩] scope pos) 0 it acc env) R s := by
  refine codeAny_loop rfl I (fun n s hI => ?_) n h
  show wpAny _ _ ((compTurn (.ListComp elt [⟨target, iter, ifs, 0⟩] scope pos) 0 it acc env).onRaise (fun x => do noteFrame x env; theTreesLotGoes x)) _ _ s
  refine wpAny_noted ?_
  rw [compTurn_list]
  refine wpAny_bind (wpAny_standAt (wpAny_bind (wpAny_mono (turn n s hI) (fun r s₁ h₁ => ?_) fun _ _ h' => h')))
  cases r with
  | none => exact wpAny_pure h₁
  | some v =>
    refine wpAny_bind (wpAny_mono h₁ (fun _ s₁ h₁ => ?_) fun _ _ h' => h')
    refine wpAny_bind (wpAny_mono h₁ (fun _ s₂ h₂ => wpAny_bind (wpAny_mono h₂ (fun ok s₃ h₃ => ?_) fun _ _ h' => h')) fun _ _ h' => h')
    cases ok with
    | false => exact wpAny_pure ⟨rfl, h₃⟩
    | true =>
      exact wpAny_bind (wpAny_bind (wpAny_mono h₃ (fun x s₄ h₄ => wpAny_bind (wpAny_mono h₄ (fun _ s₅ h₅ => wpAny_pure (wpAny_pure ⟨rfl, h₅⟩)) fun _ _ h' => h')) fun _ _ h' => h'))
end DD
namespace DD
open PySem PySem.Spec L2
open PyProof.Rows hiding St RelV
variable {g : G} {X : Cx} {pos : Pos} {F : Nat}
def ItJ (g : G) (J : It) (xs : List D) (p : Option Nat) (r1 : List Addr) (H1 : Hp) : Prop := ∀ rho st H, g.Keep r1 H1 rho H → g.Sto rho st H → stays st p xs = true → J.stop xs.length H ∧ ∀ (i : Nat) (d : DD.D), xs[i]? = some d → J.go i H ∧ ∀ x H', J.yld i H x H' → H' = H ∧ g.Rep rho H d x
def SdI (g : G) (X : Cx) (target iter : Expr) (n : Nat) (it' : E) : Prop := ∃ wi : TI, PI X target iter wi ∧ ∀ rho st env sg H (R : It → Hp → Prop), g.Sto rho st H → g.Env rho H env sg →
 RQ g (evalE g.tab g.call it' env st) (fun d st1 => ∃ xs p, itOf n st1 d = some (xs, p) ∧ ∀ H1 r1 J, g.Keep rho H r1 H1 → g.Sto r1 st1 H1 → ItJ g J xs p r1 H1 → R J H1) rho H → wi sg H R
theorem si_list {target iter : Expr} {it' : E} (hK : X.K = g.K) (h : Sd g X iter it') : SdI g X target iter 0 it' := by
 refine ⟨_, pi_list h, fun rho st env sg H R s n q => ?_⟩
 refine ⟨rho, st, env, s, n, ?_⟩
 revert q
 cases evalE g.tab g.call it' env st with
 | bad => exact fun q => q
 | exc c st1 => exact fun q => q
 | ok d st1 =>
  rintro ⟨xs, p, e, q⟩ v H1 r1 k1 s1 rv
  cases d with
  | loc m =>
   simp only [itOf] at e
   cases el : lstOf st1 m with
   | none => rw [el] at e; cases e
   | some ds =>
    rw [el] at e; cases e
    obtain ⟨a, vs, hr, sq, rl⟩ := sto_seq s1 el
    obtain ⟨a2, hr2, rfl⟩ := rep_loc.mp rv
    rw [hr] at hr2; cases hr2
    refine ⟨a, rfl, ⟨vs, by rw [hK]; exact sq⟩, q H1 r1 _ k1 s1 ?_⟩
    rw [hK]
    intro rho st H kk s hst
    have hst : lstOf st m = some xs := of_decide_eq_true hst
    obtain ⟨p3, ws, hr3, sq3, rl3⟩ := sto_seq s hst
    rw [kk.at hr] at hr3; cases hr3
    refine ⟨⟨ws, sq3, by rw [← rl3.length]; exact Nat.le_refl _⟩, fun i d hd => ?_⟩
    obtain ⟨v, hv, rv⟩ := rl3.get hd
    refine ⟨⟨ws, v, sq3, hv⟩, fun x H' y => ⟨y.1, ?_⟩⟩
    have := y.2 ws sq3
    rw [hv] at this; cases this
    exact rv
  | _ => cases e
theorem si_tup {target iter : Expr} {it' : E} (hK : X.K = g.K) (h : Sd g X iter it') : SdI g X target iter 1 it' := by
 refine ⟨_, pi_tup h, fun rho st env sg H R s n q => ?_⟩
 refine ⟨rho, st, env, s, n, ?_⟩
 revert q
 cases evalE g.tab g.call it' env st with
 | bad => exact fun q => q
 | exc c st1 => exact fun q => q
 | ok d st1 =>
  rintro ⟨xs, p, e, q⟩ v H1 r1 k1 s1 rv
  cases d with
  | tup ds =>
   simp only [itOf] at e; cases e
   obtain ⟨a, vs, rfl, sq, rl⟩ := rep_tup.mp rv
   refine ⟨a, rfl, ⟨vs, by rw [hK]; exact sq⟩, q H1 r1 _ k1 s1 ?_⟩
   rw [hK]
   intro rho st H kk s hst
   have sq3 := kk.tup a vs sq
   have rl3 := rl.mono kk
   refine ⟨⟨vs, sq3, by rw [← rl3.length]; exact Nat.le_refl _⟩, fun i d hd => ?_⟩
   obtain ⟨v, hv, rv⟩ := rl3.get hd
   refine ⟨⟨vs, v, sq3, hv⟩, fun x H' y => ⟨y.1, ?_⟩⟩
   have := y.2 vs sq3
   rw [hv] at this; cases this
   exact rv
  | _ => cases e
noncomputable def cBody (g : G) (tg : List Nat) (one : Bool) (env0 : Env) (ifs : Es) (elt : E) (d : D) (st : Sto) : Res (Option D) := match store tg one d env0 with
 | some env' => (evalIfs g.tab g.call ifs env' st).bind fun b st => if b then (evalE g.tab g.call elt env' st).bind fun y st => .ok (some y) st else .ok none st
 | none => .bad
theorem compG_noexc {all : List D} {p : Option Nat} {n0 : Nat} {body : D → Sto → Res (Option D)} {c : Nat} {st' : Sto} : ∀ {xs : List D} {st : Sto}, compLoop all p n0 body xs st ≠ .exc c st'
 | [], st => by
  simp only [compLoop]
  split <;> (intro h; cases h)
 | d :: r, st => by
  simp only [compLoop]
  split
  · split
    · split
      · split
        · exact compG_noexc
        · intro h; cases h
      · intro h; cases h
    · exact compG_noexc
    · intro h; cases h
  · intro h; cases h
theorem setAll_high {nl : Nat} : ∀ {is : List Nat} {ds : List D} {env env' : Env}, setAll is ds env = some env' → (∀ i ∈ is, i < nl) → env'.length = env.length ∧ ∀ j, nl ≤ j → env'[j]? = env[j]?
 | [], [], env, env', e, _ => by simp only [setAll] at e; cases e; exact ⟨rfl, fun _ _ => rfl⟩
 | [], _ :: _, env, env', e, _ => by simp [setAll] at e
 | _ :: _, [], env, env', e, _ => by simp [setAll] at e
 | i :: r, d :: t, env, env', e, h => by
  simp only [setAll] at e
  split at e
  · obtain ⟨h1, h2⟩ := setAll_high e fun k hk => h k (List.mem_cons_of_mem _ hk)
    have hi := h i List.mem_cons_self
    refine ⟨by rw [h1]; simp, fun j hj => ?_⟩
    rw [h2 j hj, List.getElem?_set_ne (by omega)]
  · cases e
theorem store_high {nl : Nat} {is : List Nat} {one : Bool} {d : D} {env env' : Env} (e : store is one d env = some env') (h : ∀ i ∈ is, i < nl) : env'.length = env.length ∧ ∀ j, nl ≤ j → env'[j]? = env[j]? := by
 unfold store at e
 cases one with
 | true => rw [if_pos rfl] at e; exact setAll_high e h
 | false =>
  rw [if_neg Bool.false_ne_true] at e
  cases d with
  | tup ds => exact setAll_high e h
  | _ => cases e
theorem envIn_low {nl : Nat} {fv : List Nat} {env : Env} {j : Nat} {d : D} (h : (envIn nl fv env)[j]? = some (some d)) : nl ≤ j ∧ ∃ k, fv[j - nl]? = some k ∧ getV env k = some d := by
 unfold envIn at h
 by_cases hj : j < nl
 · rw [List.getElem?_append_left (by simpa using hj), List.getElem?_replicate] at h
   split at h <;> cases h
 · refine ⟨by omega, ?_⟩
   rw [List.getElem?_append_right (by simp; omega)] at h
   simp only [List.length_replicate, List.getElem?_map] at h
   cases ek : fv[j - nl]? with
   | none => rw [ek] at h; cases h
   | some k => rw [ek] at h; simp only [Option.map_some, Option.some.injEq] at h; exact ⟨k, rfl, h⟩
theorem getV_at {env : Env} {k : Nat} {d : D} (h : getV env k = some d) : env[k]? = some (some d) := by
 unfold getV at h
 cases z : env[k]? with
 | none => rw [z] at h; cases h
 | some o => rw [z] at h; cases o with
  | none => cases h
  | some y => cases h; rfl
theorem env_in {rho : List Addr} {H : Hp} {env : Env} {sg : L2.St} (n : g.Env rho H env sg) (nl : Nat) (fv : List Nat) : g.Env rho H (envIn nl fv env) (List.replicate nl none ++ fv.map fun k => (sg[k]?).join) := by
 refine ⟨by simp [envIn], fun j d e => ?_⟩
 obtain ⟨hj, k, ek, ed⟩ := envIn_low e
 obtain ⟨v, e1, r⟩ := n.val k d (getV_at ed)
 refine ⟨v, ?_, r⟩
 rw [List.getElem?_append_right (by simp; omega)]
 simp [ek, e1]
theorem env_back {rho : List Addr} {H : Hp} {env0 env' : Env} {sg : L2.St} {nl : Nat} {fv : List Nat} {env : Env} (h0 : env0 = envIn nl fv env) (hl : env'.length = env0.length) (hh : ∀ j, nl ≤ j → env'[j]? = env0[j]?) (n : g.Env rho H env' sg) : g.Env rho H env0 sg := by
 subst h0
 refine ⟨by rw [← hl]; exact n.len, fun j d e => ?_⟩
 obtain ⟨hj, _⟩ := envIn_low e
 exact n.val j d (by rw [hh j hj]; exact e)
end DD
namespace DD
open PySem PySem.Spec L2
open PyProof.Rows hiding St RelV
variable {g : G} {X : Cx} {pos : Pos} {F : Nat}
theorem compG_core {elt iter target : Expr} {ifs : List Expr} {N : List Str} {nl : Nat} {fv tgs : List Nat} {one : Bool} {k : Nat} {scope : Scope} {cl : List (Str × Addr)} {it' elt' : E} {ifs' : Es} (hK : X.K = g.K) (hc : X.calm = true) (hkind : scope.kind = .function) (hcell : ∀ y ∈ scope.names, y.2 ≠ .cell)
    (hnames : ∀ y ∈ scope.names, y.2 = .local → scope.names.lookup y.1 = some .local) (hclos : closureFor scope X.env = pure cl) (C : Clos X scope cl) (hN : N.length = nl + fv.length)
    (hfv : ∀ j k, fv[j]? = some k → ∃ x c, N[nl + j]? = some x ∧ X.N[k]? = some x ∧ cl.lookup x = some c ∧ (X.env.scope.names.lookup x = some .cell ∨ X.env.scope.names.lookup x = some .free) ∧ ((relabel scope X.env).names.lookup x = some .cell ∨ (relabel scope X.env).names.lookup x = some .free))
    (htg : ∀ i ∈ tgs, i < nl) (hi : SdI g X target iter k it') (hg : ∀ L s0 H0 fp pn, PG (cxG X N scope cl L s0 H0 fp pn) target (tg g.K tgs one))
    (ht : ∀ L s0 H0 fp pn, PTs (cxG X N scope cl L s0 H0 fp pn) ifs (tIfs (g.with fun _ _ _ => False) ifs')) (he : ∀ L s0 H0 fp pn, Sd (g.with fun _ _ _ => False) (cxG X N scope cl L s0 H0 fp pn) elt elt')
    (hs : ∀ x, foldedSetIterable iter X.env x = pure x := by intro _; rfl)
    {use : Option (Value → Sem Unit)} {Qv : Value → Shared → Prop} {pins : List (Addr × Obj)} {s : Shared} {sg : L2.St} {H : Hp} {Q : VK} (I : L2.Inv X pins sg H s) (q : tE g (.comp k one nl tgs fv it' ifs' elt') sg H Q)
    (hfin : ∀ (ac C : Addr) (H' : Hp) (s4 : Shared), (∃ m, s4.heap.Ns C m) → FpOk X pins H' C → (∀ h', Heap.SameBut C s4.heap h' → L2.Inv X pins sg H' { s4 with heap := h' }) → Q (.ref ac) H' → compPost (model X.prog X.w) X.A X.xe use Qv (.ref ac) C (.ok .next) s4) :
    wpAny (model X.prog X.w) X.A (comprehension (.ListComp elt [⟨target, iter, ifs, 0⟩] scope pos) scope X.env (firstIterPos [⟨target, iter, ifs, 0⟩] pos) (newList []) (firstAsync [⟨target, iter, ifs, 0⟩]) (firstIter [⟨target, iter, ifs, 0⟩] X.env) use) Qv X.xe s := by
  obtain ⟨rho, st, env, S, n, q⟩ := q
  obtain ⟨wi, hpi, hwi⟩ := hi
  generalize hB : cBody g tgs one (envIn nl fv env) ifs' elt' = body
  have q : RQ g ((evalE g.tab g.call it' env st).bind fun d st => match itOf k st d with
      | some (xs, p) => (compLoop xs p st.length body xs (st ++ [.lst []])).bind fun _ st' => .ok (.loc st.length) st'
      | none => .bad) (Post g rho H Q) rho H := by
    rw [← hB]
    simp only [evalE] at q
    exact q
  refine wpAny_comprehension_free (use := use) rfl hs hclos hkind hnames ?_
  have hpi := hpi pins s sg H
    (fun J H1 => ∃ r1 st1 xs p, g.Keep rho H r1 H1 ∧ g.Sto r1 st1 H1 ∧ ItJ g J xs p r1 H1 ∧
      RQ g ((compLoop xs p st1.length body xs (st1 ++ [.lst []])).bind fun _ st' => .ok (.loc st1.length) st') (Post g rho H Q) r1 H1) I ?_
  · refine thn hpi fun v s1 h1 => thn h1 fun itv s2 h2 => ?_
    obtain ⟨it, fp, tn, J, H1, rfl, I2, T, st2, f2, r1, st1, xs, p, k1, S1, hJ, q1⟩ := h2
    obtain ⟨stf, hloop, q1⟩ : ∃ stf, compLoop xs p st1.length body xs (st1 ++ [.lst []]) = .ok () stf ∧ Post g rho H Q (.loc st1.length) stf := by
      revert q1
      cases e : compLoop xs p st1.length body xs (st1 ++ [.lst []]) with
      | ok u stf => exact fun q => ⟨stf, rfl, q⟩
      | exc c st2 => exact absurd e compG_noexc
      | bad => exact fun q => q.elim
    refine wpAny_newObj_type ?_
    have I3 := I2.lnew (its := []) (ys := []) (t' := s2.toks) .nil (Nat.zero_le _)
    have hn3 := I2.fresh
    generalize hs3 : ({ s2 with heap := s2.heap.push { cls := .type "list", data := .seq ([] : List Value).toArray } } : Shared) = s3
    have I3 : L2.Inv X pins sg (upd H1 s2.heap.objs.size (.lst [])) s3 := by rw [← hs3]; exact I3
    have hsz : s3.heap.objs.size = s2.heap.objs.size + 1 := by rw [← hs3]; exact Heap.size_push _ _
    have up3 : ∀ b o, s2.heap.get? b = some o → s3.heap.get? b = some o := fun b o e => by rw [← hs3]; exact Heap.get?_push_of_some _ e
    have hfp : ∀ b ∈ fp, FpOk X pins (upd H1 s2.heap.objs.size (.lst [])) b ∧ b < s3.heap.objs.size := fun b hb => by
      obtain ⟨o, ho, _⟩ := T.obj _ _ st2 b hb
      have hlt := Heap.lt_size ho
      refine ⟨⟨?_, (f2 b hb).2⟩, by rw [hsz]; exact Nat.lt_succ_of_lt hlt⟩
      rw [upd_ne (Nat.ne_of_lt hlt)]
      exact (f2 b hb).1
    have k13 : g.Keep r1 H1 (r1 ++ [s2.heap.objs.size]) (upd H1 s2.heap.objs.size (.lst [])) := (S1.laid hn3 (o := .lst []) (c := .lst []) ⟨[], upd_same, by simp [RepL]⟩).1
    have S3 : g.Sto (r1 ++ [s2.heap.objs.size]) (st1 ++ [.lst []]) (upd H1 s2.heap.objs.size (.lst [])) := (S1.laid hn3 (o := .lst []) (c := .lst []) ⟨[], upd_same, by simp [RepL]⟩).2
    have acc_at : (r1 ++ [s2.heap.objs.size])[st1.length]? = some s2.heap.objs.size := by rw [← S1.len]; simp
    generalize hH3 : upd H1 s2.heap.objs.size (.lst []) = H3 at *
    generalize hac : s2.heap.objs.size = ac at *
    generalize hr3 : r1 ++ [ac] = r3 at *
    refine wpAny_newFunctionEnv hcell (by intro y hy; simp at hy) (fun h₁ hns₁ hsb₁ => ?_) hkind
    have hk1 : ∀ b o, s3.heap.get? b = some o → h₁.get? b = some o := fun b o e => hsb₁.extBut b o (Nat.ne_of_lt (Heap.lt_size e)) (Heap.get?_push_of_some _ e)
    have J0 := compG_in (N := N) (nl := nl) (fv := fv) (tk := s3.toks + ([] : List (Str × Value)).length) hkind C hN hfv I3 hfp hns₁ hk1
    have n0 := env_in (n.mono (k1.trans k13)) nl fv
    generalize hsg0 : (List.replicate nl none ++ fv.map fun k => (sg[k]?).join : L2.St) = sg0 at J0 n0
    have tn0 : tn 0 h₁ := T.keep _ _ _ st2 fun b _ o e => hk1 b o (up3 b o e)
    have bfp : ∀ {H' : Hp}, (∀ b ∈ fp, H' b = none) → ∀ b ∈ fp, FpOk (cxG X N scope cl s3.heap.objs.size s3 H3 fp (X.pn ++ pins)) [] H' b := fun hn b hb => by
      obtain ⟨f, hlt⟩ := hfp b hb
      refine ⟨hn b hb, fun z => ?_, fp_stkG I3 f, .inl hb, fun y c h => f.2.2.2.2.1 y c (C.sub y c h), fun p hp => f.2.2.2.2.2 p (by rw [List.append_nil] at hp; exact hp)⟩
      have : s3.heap.objs.size < s3.heap.objs.size := by rw [z] at hlt; exact hlt
      exact Nat.lt_irrefl _ this
    have loop : codeAny (model X.prog X.w) X.A (.compLoop (.ListComp elt [⟨target, iter, ifs, 0⟩] scope pos) 0 (.ref it) (.ref ac) (envG X scope cl s3.heap.objs.size))
        (compPost (model X.prog X.w) X.A X.xe use Qv (.ref ac) s3.heap.objs.size)
        { s3 with heap := h₁, toks := s3.toks + ([] : List (Str × Value)).length } := by
      refine compLoop_ifs (fun mm s' => ∃ i rho' st' H' sg', L2.Inv (cxG X N scope cl s3.heap.objs.size s3 H3 fp (X.pn ++ pins)) [] sg' H' s' ∧ tn i s'.heap ∧ (∀ b ∈ fp, H' b = none) ∧ g.Keep r3 H3 rho' H' ∧ g.Sto rho' st' H' ∧ g.Env rho' H' (envIn nl fv env) sg' ∧ mm = xs.length - i ∧ i ≤ xs.length ∧
        compLoop xs p st1.length body (xs.drop i) st' = .ok () stf) ?_ xs.length ⟨0, r3, _, H3, sg0, J0, tn0, fun b hb => (hfp b hb).1.1, .refl _ _, S3, n0, by simp, Nat.zero_le _, hloop⟩
      rintro mm s' ⟨i, rho', st', H', sg', I', tn', fr', kk, S', n', rfl, hi, hl'⟩
      have hst : stays st' p xs = true := by
        cases z : stays st' p xs with
        | true => rfl
        | false =>
          exfalso
          cases e : xs.drop i with
          | nil => rw [e] at hl'; simp only [compLoop, z] at hl'; cases hl'
          | cons d t => rw [e] at hl'; simp only [compLoop, z] at hl'; cases hl'
      obtain ⟨jstop, jgo⟩ := hJ rho' st' H' (k13.trans kk) S' hst
      by_cases hlt : i < xs.length
      · obtain ⟨hgo, hy⟩ := jgo i xs[i] (List.getElem?_eq_getElem hlt)
        rw [List.drop_eq_getElem_cons hlt] at hl'
        simp only [compLoop, hst, if_true] at hl'
        refine thn (T.item (cxG X N scope cl s3.heap.objs.size s3 H3 fp (X.pn ++ pins)) rfl rfl rfl hc i [] s' sg' H' _ I' (bfp fr') tn' hgo) fun r s4 ⟨u, hr4, h4⟩ => ?_
        subst hr4
        refine thn h4 fun _ s5 ⟨x5, H5, I5, r5, y5, tn5, fr5⟩ => ?_
        obtain ⟨e5, rx5⟩ := hy x5 H5 y5
        subst e5
        have I5' := I5.pinned (bfp fr5) (T.obj _ _ tn5)
        obtain ⟨env', es⟩ : ∃ env', store tgs one xs[i] (envIn nl fv env) = some env' := by
          cases es : store tgs one xs[i] (envIn nl fv env) with
          | some env' => exact ⟨env', rfl⟩
          | none =>
            exfalso
            have : body xs[i] st' = .bad := by rw [← hB]; unfold cBody; rw [es]
            rw [this] at hl'; cases hl'
        have hbody : body xs[i] st' = (evalIfs g.tab g.call ifs' env' st').bind fun b st => if b then (evalE g.tab g.call elt' env' st).bind fun y st => .ok (some y) st else .ok none st := by
          rw [← hB]; unfold cBody; rw [es]
        rw [hbody] at hl'
        obtain ⟨hel, hhi⟩ := store_high es htg
        refine wpAny_mono (hg s3.heap.objs.size s3 H3 fp (X.pn ++ pins) _ s5 sg' H5 x5 u (fun sg6 H6 => H6 = H5 ∧ g.Env rho' H6 env' sg6) I5' r5 (tg_store (g := g) es rx5 n' fun sg6 n6 => ⟨rfl, n6⟩)) (fun _ s6 h6 => ?_) (fun _ _ z => z.elim)
        obtain ⟨sg6, H6, I6, e6, n6⟩ := h6
        subst e6
        obtain ⟨b, st2, eb, hl'⟩ : ∃ b st2, evalIfs g.tab g.call ifs' env' st' = .ok b st2 ∧ (match (if b then (evalE g.tab g.call elt' env' st2).bind fun y st => .ok (some y) st else .ok none st2 : Res (Option D)) with
            | .ok (some y) st' => (match st'[st1.length]? with
              | some (.lst ys) => if ys.length < sizeLine then compLoop xs p st1.length body (xs.drop (i + 1)) (st'.set st1.length (.lst (ys ++ [y]))) else .bad
              | _ => .bad)
            | .ok none st' => compLoop xs p st1.length body (xs.drop (i + 1)) st'
            | _ => .bad) = Res.ok () stf := by
          cases eb : evalIfs g.tab g.call ifs' env' st' with
          | ok b st2 => rw [eb] at hl'; exact ⟨b, st2, rfl, hl'⟩
          | exc c st2 => rw [eb] at hl'; cases hl'
          | bad => rw [eb] at hl'; cases hl'
        refine wpAny_mono (ht s3.heap.objs.size s3 H3 fp (X.pn ++ pins) _ s6 sg6 H6 (fun b' H7 => b' = b ∧ ∃ rho7, g.Keep rho' H6 rho7 H7 ∧ g.Sto rho7 st2 H7) I6 ⟨rho', st', env', S', n6, ?_⟩) (fun ok s7 h7 => ?_) (fun _ _ z => z.elim)
        · show RQ (g.with fun _ _ _ => False) (evalIfs g.tab g.call ifs' env' st') _ rho' H6
          rw [eb]
          exact fun H7 rho7 k7 s7 => ⟨rfl, rho7, k7, s7⟩
        obtain ⟨H7, I7, e7, rho7, k7, S7⟩ := h7
        subst e7
        have n7 : g.Env rho7 H7 env' sg6 := n6.mono k7
        have done : ∀ (rho9 : List Addr) (st9 : Sto) (H9 : Hp) (s9 : Shared), L2.Inv (cxG X N scope cl s3.heap.objs.size s3 H3 fp (X.pn ++ pins)) ([] ++ pinsAt fp s5.heap) sg6 H9 s9 → g.Keep rho7 H7 rho9 H9 → g.Sto rho9 st9 H9 → compLoop xs p st1.length body (xs.drop (i + 1)) st9 = .ok () stf →
            ∃ m, m < xs.length - i ∧ ∃ i rho' st' H' sg', L2.Inv (cxG X N scope cl s3.heap.objs.size s3 H3 fp (X.pn ++ pins)) [] sg' H' s9 ∧ tn i s9.heap ∧ (∀ b ∈ fp, H' b = none) ∧ g.Keep r3 H3 rho' H' ∧ g.Sto rho' st' H' ∧ g.Env rho' H' (envIn nl fv env) sg' ∧ m = xs.length - i ∧ i ≤ xs.length ∧ compLoop xs p st1.length body (xs.drop i) st' = .ok () stf := by
          intro rho9 st9 H9 s9 I9 k9 S9 hl9
          refine ⟨xs.length - (i + 1), by omega, i + 1, rho9, st9, H9, sg6, I9.unpinned, T.keep _ _ _ tn5 fun b hb o e => (I9.pin (b, o) (List.mem_append_right _ (List.mem_append_right _ (mem_pinsAt hb e)))).1, fun b hb => ?_, (kk.trans k7).trans k9, S9, env_back rfl hel hhi (n7.mono k9), rfl, hlt, hl9⟩
          obtain ⟨o, e, d⟩ := T.obj _ _ tn5 b hb
          exact (I9.pin (b, o) (List.mem_append_right _ (List.mem_append_right _ (mem_pinsAt hb e)))).2.1
        cases ok with
        | false =>
          rw [if_neg Bool.false_ne_true]
          simp only [Bool.false_eq_true, if_false] at hl'
          exact done rho7 st2 H7 s7 I7 (.refl _ _) S7 hl'
        | true =>
          rw [if_pos rfl]
          simp only [if_true] at hl'
          obtain ⟨y, st4, ee, hl'⟩ : ∃ y st4, evalE g.tab g.call elt' env' st2 = .ok y st4 ∧ (match st4[st1.length]? with
              | some (.lst ys) => if ys.length < sizeLine then compLoop xs p st1.length body (xs.drop (i + 1)) (st4.set st1.length (.lst (ys ++ [y]))) else .bad
              | _ => .bad) = Res.ok () stf := by
            cases ee : evalE g.tab g.call elt' env' st2 with
            | ok y st4 => rw [ee] at hl'; exact ⟨y, st4, rfl, hl'⟩
            | exc c st4 => rw [ee] at hl'; cases hl'
            | bad => rw [ee] at hl'; cases hl'
          obtain ⟨ys, ey, hys, hl'⟩ : ∃ ys, st4[st1.length]? = some (.lst ys) ∧ ys.length < sizeLine ∧ compLoop xs p st1.length body (xs.drop (i + 1)) (st4.set st1.length (.lst (ys ++ [y]))) = .ok () stf := by
            split at hl'
            · rename_i ys ey
              split at hl'
              · rename_i hys; exact ⟨ys, ey, hys, hl'⟩
              · cases hl'
            · cases hl'
          refine wpAny_mono (he s3.heap.objs.size s3 H3 fp (X.pn ++ pins) _ s7 sg6 H7 (fun w H8 => ∃ rho8, g.Keep rho7 H7 rho8 H8 ∧ g.Sto rho8 st4 H8 ∧ g.Rep rho8 H8 y w) I7 ⟨rho7, st2, env', S7, n7, ?_⟩) (fun yv s8 h8 => ?_) (fun _ _ z => z.elim)
          · show RQ (g.with fun _ _ _ => False) (evalE g.tab g.call elt' env' st2) _ rho7 H7
            rw [ee]
            exact fun w H8 rho8 k8 s8 r8 => ⟨rho8, k8, s8, r8⟩
          obtain ⟨w, H8, I8, rw8, rho8, k8, S8, rp8⟩ := h8
          obtain ⟨a8, us, hr8, hH8, rl8⟩ := sto_lst S8 ey
          rw [k8.at (k7.at (kk.at acc_at))] at hr8; cases hr8
          have hrep : g.RepL rho8 H8 (ys ++ [y]) (us ++ [w]) := rl8.append (by simp only [RepL]; exact ⟨w, [], rfl, rp8, rfl⟩)
          obtain ⟨k9, S9⟩ := S8.wrote (k8.at (k7.at (kk.at acc_at))) ey hH8 hrep
          refine wpAny_mono (mt_append (X := cxG X N scope cl s3.heap.objs.size s3 H3 fp (X.pn ++ pins)) _ s8 _ H8 (.ref ac) [w] (.ref ac) [yv] (fun _ H9 => H9 = upd H8 ac (.lst (us ++ [w]))) I8 rfl (.cons rw8 .nil) ⟨ac, us, w, rfl, rfl, hH8, by rw [← rl8.length]; exact hys, rfl⟩) (fun _ s9 h9 => ?_) (fun _ _ z => z.elim)
          obtain ⟨_, H9, I9, _, e9⟩ := h9
          subst e9
          exact done rho8 _ _ s9 I9 (k8.trans k9) S9 hl'
      · have ei : i = xs.length := by omega
        subst ei
        refine thn (T.done (cxG X N scope cl s3.heap.objs.size s3 H3 fp (X.pn ++ pins)) rfl rfl rfl hc xs.length [] s' sg' H' _ I' (bfp fr') tn' jstop) fun r s4 ⟨hr4, I4⟩ => ?_
        subst hr4
        rw [List.drop_eq_nil_of_le (Nat.le_refl _)] at hl'
        simp only [compLoop, hst, if_true] at hl'
        cases hl'
        obtain ⟨m4, hn4, _⟩ := I4.loc
        refine hfin ac s3.heap.objs.size H' s4 ⟨m4, hn4⟩ (I3.fpOk (Nat.le_refl _) I4.free) (fun h' sb => ?_) (q1 (.ref ac) H' rho' ((k1.trans k13).trans kk) S' (rep_loc.mpr ⟨ac, kk.at acc_at, rfl⟩))
        have u4 : Un (frs X.stack) fp H3 H' s3.heap s4.heap := I4.base
        have hL : ∀ b o, s3.heap.get? b = some o → b ≠ s3.heap.objs.size := fun b o e => Nat.ne_of_lt (Heap.lt_size e)
        have fL : H' s3.heap.objs.size = none := I4.free
        refine I3.call' (s' := { s4 with heap := h' }) (ch := fp) I4.os ⟨fun b o e n hb hx => (sb.2 b (hL b o e)).trans (u4.keep b o e n hb hx), fun b o e n hb hx => ?_, u4.free, fun b o e hx => ?_, u4.tups, u4.frzs, u4.tbls⟩ (fun b o e => ?_) I4.bare fun b hb => ?_
        · obtain ⟨sl, e1⟩ := u4.slot b o e n hb hx
          exact ⟨sl, (sb.2 b (hL b o e)).trans e1⟩
        · obtain ⟨o', e1⟩ := u4.there b o e hx
          exact ⟨o', (sb.2 b (hL b o e)).trans e1⟩
        · refine (I4.hok b o e).stay (fun c u hc' g' => (sb.2 c ?_).trans g') (fun _ h => h) fun _ _ h => h
          intro z
          rcases hc' with rfl | hc'
          · rw [z, fL] at e; cases e
          · rw [z, fL] at hc'; cases hc'
        · obtain ⟨f, _⟩ := hfp b hb
          exact ⟨f.2.2.2.1, f.2.1, f.2.2.2.2.1, f.2.2.2.2.2⟩
    exact codeAny_compStart_list loop (T.self _ 0 _ _ _ tn0 loop)
  · refine hwi rho st env sg H _ S n ?_
    revert q
    cases evalE g.tab g.call it' env st with
    | bad => exact fun q => q
    | exc c st1 => exact fun q => q
    | ok d st1 =>
      simp only [bind_ok]
      intro q
      cases ei : itOf k st1 d with
      | none => rw [ei] at q; exact q.elim
      | some xp =>
        obtain ⟨xs, p⟩ := xp
        rw [ei] at q
        exact ⟨xs, p, ei, fun H1 r1 J k1 s1 hJ => ⟨r1, st1, xs, p, k1, s1, hJ, RQ.mono k1 q fun _ _ z => z⟩⟩
theorem sd_compG {elt iter target : Expr} {ifs : List Expr} {N : List Str} {nl : Nat} {fv tgs : List Nat} {one : Bool} {k : Nat} {scope : Scope} {cl : List (Str × Addr)} {it' elt' : E} {ifs' : Es} (hK : X.K = g.K) (hc : X.calm = true) (hkind : scope.kind = .function) (hcell : ∀ y ∈ scope.names, y.2 ≠ .cell)
    (hnames : ∀ y ∈ scope.names, y.2 = .local → scope.names.lookup y.1 = some .local) (hclos : closureFor scope X.env = pure cl) (C : Clos X scope cl) (hN : N.length = nl + fv.length)
    (hfv : ∀ j k, fv[j]? = some k → ∃ x c, N[nl + j]? = some x ∧ X.N[k]? = some x ∧ cl.lookup x = some c ∧ (X.env.scope.names.lookup x = some .cell ∨ X.env.scope.names.lookup x = some .free) ∧ ((relabel scope X.env).names.lookup x = some .cell ∨ (relabel scope X.env).names.lookup x = some .free))
    (htg : ∀ i ∈ tgs, i < nl) (hi : SdI g X target iter k it') (hg : ∀ L s0 H0 fp pn, PG (cxG X N scope cl L s0 H0 fp pn) target (tg g.K tgs one))
    (ht : ∀ L s0 H0 fp pn, PTs (cxG X N scope cl L s0 H0 fp pn) ifs (tIfs (g.with fun _ _ _ => False) ifs')) (he : ∀ L s0 H0 fp pn, Sd (g.with fun _ _ _ => False) (cxG X N scope cl L s0 H0 fp pn) elt elt')
    (hs : ∀ x, foldedSetIterable iter X.env x = pure x := by intro _; rfl) :
    Sd g X (.ListComp elt [⟨target, iter, ifs, 0⟩] scope pos) (.comp k one nl tgs fv it' ifs' elt') := by
  intro pins s sg H Q I q
  rw [eval_ListComp]
  exact compG_core hK hc hkind hcell hnames hclos C hN hfv htg hi hg ht he hs I q fun ac C H' s4 ⟨m, hn⟩ _ hI hq => ⟨m, hn, fun h' sb => ⟨.ref ac, H', hI h' sb, rfl, hq⟩⟩
end DD
namespace DD
open PySem PySem.Spec L2
open PyProof.Rows hiding St RelV
variable {g : G} {X : Cx} {pos : Pos} {F : Nat}
end DD
namespace DD
open PySem PySem.Spec L2
open PyProof.Rows hiding St
variable {g : G} {X : Cx} {a b c : Expr} {a' b' c' : E} {pos : Pos} {rest es : List Expr} {es' : Es} {F : Nat}
end DD
namespace DD
open PySem PySem.Spec L2
variable {g : G} {X : Cx} {pos apos cpos : Pos} {F : Nat} {a b c : Expr} {a' b' c' : E}
theorem kv_len {rho : List Addr} {H : Hp} : ∀ {kvs : List (D × D)} {ws : List (Key × V)}, KvRep g.K rho H kvs ws → kvs.length = ws.length
 | [], ws, h => by simp only [KvRep] at h; subst h; rfl
 | (x, d) :: r, ws, h => by
  simp only [KvRep] at h
  obtain ⟨k, v, t, rfl, _, _, q⟩ := h
  simp [kv_len q]
theorem kv_any {rho : List Addr} {H : Hp} {a : D} {k : Key} (ha : kD a = some k) : ∀ {kvs : List (D × D)} {ws : List (Key × V)}, KvRep g.K rho H kvs ws → (kvs.any fun p => decide (p.1 = a)) = ws.any fun p => decide (p.1 = k)
 | [], ws, h => by simp only [KvRep] at h; subst h; rfl
 | (x, d) :: r, ws, h => by
  simp only [KvRep] at h
  obtain ⟨k', v, t, rfl, hk, _, q⟩ := h
  simp only [List.any_cons, kv_any ha q]
  congr 1
  by_cases e : x = a
  · subst e; rw [ha] at hk; cases hk; simp
  · have : k' ≠ k := fun z => e (kD_inj (by rw [hk, z]) ha)
    simp [e, this]
theorem kv_map {rho : List Addr} {H : Hp} {a y : D} {k : Key} {v : V} (ha : kD a = some k) (ry : g.Rep rho H y v) : ∀ {kvs : List (D × D)} {ws : List (Key × V)}, KvRep g.K rho H kvs ws → KvRep g.K rho H (kvs.map fun p => if p.1 = a then (p.1, y) else p) (ws.map fun p => if p.1 = k then (p.1, v) else p)
 | [], ws, h => by simp only [KvRep] at h; subst h; simp [KvRep]
 | (x, d) :: r, ws, h => by
  simp only [KvRep] at h
  obtain ⟨k', v', t, rfl, hk, rd, q⟩ := h
  have ih := kv_map ha ry q
  by_cases e : x = a
  · subst e; rw [ha] at hk; cases hk
    simp only [List.map_cons, if_true, KvRep]
    exact ⟨k, v, _, rfl, ha, ry, ih⟩
  · have ne : k' ≠ k := fun z => e (kD_inj (by rw [hk, z]) ha)
    simp only [List.map_cons, if_neg e, if_neg ne, KvRep]
    exact ⟨k', v', _, rfl, hk, rd, ih⟩
theorem kv_snoc {rho : List Addr} {H : Hp} {a y : D} {k : Key} {v : V} (ha : kD a = some k) (ry : g.Rep rho H y v) : ∀ {kvs : List (D × D)} {ws : List (Key × V)}, KvRep g.K rho H kvs ws → KvRep g.K rho H (kvs ++ [(a, y)]) (ws ++ [(k, v)])
 | [], ws, h => by simp only [KvRep] at h; subst h; simp only [List.nil_append, KvRep]; exact ⟨k, v, [], rfl, ha, ry, rfl⟩
 | (x, d) :: r, ws, h => by
  simp only [KvRep] at h
  obtain ⟨k', v', t, rfl, hk, rd, q⟩ := h
  simp only [List.cons_append, KvRep]
  exact ⟨k', v', _, rfl, hk, rd, kv_snoc ha ry q⟩
theorem kv_put {rho : List Addr} {H : Hp} {a y : D} {k : Key} {v : V} (ha : kD a = some k) (ry : g.Rep rho H y v) {kvs : List (D × D)} {ws : List (Key × V)} (h : KvRep g.K rho H kvs ws) : KvRep g.K rho H (dPut kvs a y) (putK ws k v) := by
 unfold dPut putK
 rw [kv_any ha h]
 split
 · exact kv_map ha ry h
 · exact kv_snoc ha ry h
theorem kv_merge {rho : List Addr} {H : Hp} : ∀ {more : List (D × D)} {ms : List (Key × V)} {kvs : List (D × D)} {ws : List (Key × V)}, KvRep g.K rho H more ms → KvRep g.K rho H kvs ws → KvRep g.K rho H (dMerge kvs more) (mergeK ws ms)
 | [], ms, kvs, ws, h, q => by simp only [KvRep] at h; subst h; exact q
 | (x, d) :: r, ms, kvs, ws, h, q => by
  simp only [KvRep] at h
  obtain ⟨k, v, t, rfl, hk, rd, h2⟩ := h
  show KvRep g.K rho H (dMerge (dPut kvs x d) r) (mergeK (putK ws k v) t)
  exact kv_merge h2 (kv_put hk rd q)
theorem wrote_dct {rho : List Addr} {st : Sto} {H : Hp} {n : Nat} {p : Addr} {kvs kvs2 : List (D × D)} {ws ws2 : List (Key × V)} (s : g.Sto rho st H) (hr : rho[n]? = some p) (he : st[n]? = some (.dct kvs)) (hH : H p = some (.dK ws)) (h2 : KvRep g.K rho H kvs2 ws2) :
    g.Keep rho H rho (upd H p (.dK ws2)) ∧ g.Sto rho (st.set n (.dct kvs2)) (upd H p (.dK ws2)) := s.wroteC hr he rfl hH ⟨fun _ => nofun, fun _ _ => nofun⟩ fun H3 eH kk => ⟨ws2, eH, h2.mono kk⟩
theorem d_dictSet {pins : List (Addr × Obj)} {sg : L2.St} {H : Hp} {s : Shared} {A : Around} {E : Value → Shared → Prop} {p : Addr} {kvs : List (Key × V)} {k : Key} {v : V} {u r : Value} {Q : Unit → Shared → Prop} (I : Inv X pins sg H s) (e : H p = some (.dK kvs)) (l : kvs.length < sizeLine) (ry : RelV (kV k) u) (rv : RelV v r)
    (h : ∀ s', Inv X pins sg (upd H p (.dK (putK kvs k v))) s' → Q () s') : wpAny (model X.prog X.w) A (dictSet p u r) Q E s := by
  obtain ⟨z, hd, vs, rel, dd⟩ := dk_of I.hok e
  have hz : vs.length ≤ sizeLine := by rw [← rel.length]; exact z
  have hl : (putK kvs k v).length ≤ sizeLine := by have := length_putK kvs k v; omega
  refine wpAny_dictSet_pairs (hsz := hz) (kV_is ry) dd fun h' dd' hs => h _ ?_
  have he : ∃ q, h'.get? p = some q := let ⟨q, _, _, hq, _⟩ := dd'; ⟨q, hq⟩
  exact d_write I (by rw [e]; exact True.intro) hs he (dk_new hl hd (rel.put k rv) dd')
theorem rdyD {m : Mt} {st : Sto} {d : D} (hm : m = .get ∨ m = .upd) (h : rdy m st d = true) : ∃ n kvs, d = .loc n ∧ dctOf st n = some kvs := by
 cases d with
 | loc n =>
  have h : (dctOf st n).isSome = true := by rcases hm with rfl | rfl <;> exact h
  cases e : dctOf st n with
  | none => rw [e] at h; cases h
  | some kvs => exact ⟨n, kvs, rfl, e⟩
 | _ => rcases hm with rfl | rfl <;> cases h
theorem sd_get2 {o e f : Expr} {o' e' f' : E} (hu : X.A.units + 64 < cLine) (ho : Sd g X o o') (he : Sd g X e e') (hf : Sd g X f f') (m : M2 X o "get" apos e f cpos) : Sd g X (.Call (.Attribute o "get" apos) [e, f] [] cpos) (.mt .get o' (.cons e' (.cons f' .nil))) :=
 pe_imp (pe_dget2 (by omega) ho he hf m) fun sg H Q q => by
  obtain ⟨rho, st, env, s, n, q⟩ := q
  simp only [evalE, evalEs, bind_ok, bind_assoc] at q
  refine step s n q fun d st1 x H1 r1 k1 s1 n1 rp q1 => ?_
  split at q1
  · rename_i hl
    obtain ⟨j, kvs, rfl, ed⟩ := rdyD (.inl rfl) hl
    obtain ⟨p, ws, hr, _, hH, kv⟩ := sto_dct s1 ed
    obtain ⟨p2, hr2, rfl⟩ := rep_loc.mp rp
    rw [hr] at hr2; cases hr2
    refine ⟨p, rfl, .inl ⟨ws, .inl hH⟩, step s1 n1 q1 fun y st2 w H2 r2 k2 s2 n2 ry q2 => ?_⟩
    refine step s2 n2 q2 fun z st3 u H3 r3 k3 s3 n3 rz q3 => ?_
    simp only [mtD] at q3
    split at q3
    · rename_i kvs2 ed2
      split at q3
      · rename_i hk
        obtain ⟨k, ek⟩ := kD_key hk
        obtain ⟨p3, ws2, hr3, _, hH2, kv2⟩ := sto_dct s3 ed2
        rw [k3.at (k2.at hr)] at hr3; cases hr3
        cases rep_kD ry ek
        refine ⟨valV ws2 k, DGet.k hH2, ?_⟩
        obtain ⟨l1, l2⟩ := kv_look ek kv2
        have q3 : Post g rho H Q ((dLook kvs2 y).getD z) st3 := q3
        cases zz : dLook kvs2 y with
        | none => rw [zz] at q3; rw [l2 zz]; exact q3 _ H3 r3 ((k1.trans k2).trans k3) s3 rz
        | some d => rw [zz] at q3; obtain ⟨v, e1, rv⟩ := l1 d zz; rw [e1]; exact q3 _ H3 r3 ((k1.trans k2).trans k3) s3 rv
      · exact q3.elim
    · exact q3.elim
  · exact q1.elim
def rUpd : V → List V → Hp → VK → Prop := fun x vs H Q => ∃ p o kvs more, x = .ref p ∧ vs = [.ref o] ∧ p ≠ o ∧ H p = some (.dK kvs) ∧ H o = some (.dK more) ∧ kvs.length + more.length ≤ sizeLine ∧ Q .non (upd H p (.dK (mergeK kvs more)))
theorem mt_upd : MtR X "dict.update" rUpd := by
 intro pins s sg H x vs v us Q I rx rv h
 obtain ⟨p, o, kvs, more, rfl, rfl, hne, hp, ho, hz, q⟩ := h
 cases rx
 obtain ⟨u, rfl, ru⟩ := rv.one
 cases ru
 obtain ⟨z, hd, ws, rel, dd⟩ := dk_of I.hok hp
 obtain ⟨z2, hd2, ms, rel2, dd2⟩ := dk_of I.hok ho
 refine call_meetsIn PySem.F.slot_dict_update dd.typeIs PySem.F.entry_dict_update (PySem.F.args_dict_update_2 _ _) (meets_dict_update (mixKind X.prog X.w) p o hne hd2) ⟨ws, ms, dd, dd2, by rw [← rel.length, ← rel2.length]; exact hz, fun h' dd' _ hs => ⟨.non, _, ?_, rfl, q⟩⟩
 have he : ∃ q, h'.get? p = some q := let ⟨q, _, _, hq, _⟩ := dd'; ⟨q, hq⟩
 exact d_write (t' := s.toks) I (by rw [hp]; exact True.intro) hs he (dk_new (Nat.le_trans (length_mergeK more kvs) hz) hd (rel2.merge rel) dd')
theorem sd_upd {o v : Expr} {o' v' : E} (ho : Sd g X o o') (hv : Sd g X v v') (hbase : attributeBase o "update" X.env (eval o X.env) = eval o X.env := by rfl)
    (hfew : ((backTo cpos (starEach [v] X.env)).all (fun x => !x.1) && (backToKw cpos (keywordEach [] X.env)).all (fun x => x.1.isSome) && decide ([v].length + ([] : List Keyword).length + (if ([] : List Keyword).isEmpty then 0 else 1) < 30)) = true := by rfl)
    (hline : (apos.endLine == cpos.line) = true := by rfl) (hs : starEach [v] X.env = (false, eval v X.env) :: starEach [] X.env := by rfl) : Sd g X (.Call (.Attribute o "update" apos) [v] [] cpos) (.mt .upd o' (.cons v' .nil)) :=
  pe_imp (pe_bm PySem.F.plainAttrs_dict PySem.F.slot_dict_update PySem.F.type_dict_update mt_upd ho (sdl_cons hv sdl_nil hs) hbase hfew hline hs rfl) fun sg H Q q => by
    obtain ⟨rho, st, env, s, n, q⟩ := q
    simp only [evalE] at q
    refine step s n q fun d st1 x H1 r1 k1 s1 n1 rp q1 => ?_
    split at q1
    · rename_i hl
      obtain ⟨j, kvs, rfl, ed⟩ := rdyD (.inr rfl) hl
      obtain ⟨p, ws, hr, _, hH, kv⟩ := sto_dct s1 ed
      obtain ⟨p2, hr2, rfl⟩ := rep_loc.mp rp
      rw [hr] at hr2; cases hr2
      refine ⟨.inr (.inr (.inl ⟨rfl, .inl ⟨ws, hH⟩⟩)), stepL s1 n1 q1 fun ds st2 vs H2 r2 k2 s2 n2 rps q2 => ?_⟩
      match ds, q2 with
      | [.loc m], q2 =>
        obtain ⟨w, rfl, rw1⟩ := repL1 rps
        simp only [mtD] at q2
        split at q2
        · rename_i kvs2 more e1 e2
          split at q2
          · rename_i hz
            obtain ⟨p3, ws2, hr3, hc3, hH2, kv2⟩ := sto_dct s2 e1
            rw [k2.at hr] at hr3; cases hr3
            obtain ⟨p4, ms, hr4, hc4, hH4, kv4⟩ := sto_dct s2 e2
            obtain ⟨p5, hr5, rfl⟩ := rep_loc.mp rw1
            rw [hr4] at hr5; cases hr5
            have hne : p ≠ p4 := fun z => hz.1 (s2.nd j m p _ _ (k2.at hr) (by rw [z]; exact hr4) hc3 hc4 rfl rfl)
            obtain ⟨k3, s3⟩ := wrote_dct s2 (k2.at hr) hc3 hH2 (kv_merge kv4 kv2)
            exact ⟨p, p4, ws2, ms, rfl, rfl, hne, hH2, hH4, by rw [← kv_len kv2, ← kv_len kv4]; exact hz.2, (show Post g rho H Q .non _ from q2) _ _ r2 ((k1.trans k2).trans k3) s3 (rep_non.mpr rfl)⟩
          · exact q2.elim
        · exact q2.elim
      | [], q2 => exact q2.elim
      | [.non], q2 => exact q2.elim
      | [.bl _], q2 => exact q2.elim
      | [.int _], q2 => exact q2.elim
      | [.str _], q2 => exact q2.elim
      | [.tup _], q2 => exact q2.elim
      | _ :: _ :: _, q2 => exact (show False by revert q2; rename_i a b c; cases a <;> exact fun q => q.elim).elim
    · exact q1.elim
end DD
namespace DD
open PySem PySem.Spec L2
open PyProof.Rows hiding St RelV
variable {g : G} {X : Cx} {pos : Pos} {F : Nat}
noncomputable def dBody (g : G) (tg : List Nat) (one : Bool) (env0 : Env) (ifs : Es) (kx vx : E) (d : D) (st : Sto) : Res (Option (D × D)) := match store tg one d env0 with
 | some env' => (evalIfs g.tab g.call ifs env' st).bind fun b st => if b then (evalE g.tab g.call kx env' st).bind fun k st => (evalE g.tab g.call vx env' st).bind fun y st => .ok (some (k, y)) st else .ok none st
 | none => .bad
theorem dcompG_noexc {all : List D} {p : Option Nat} {n0 : Nat} {body : D → Sto → Res (Option (D × D))} {c : Nat} {st' : Sto} : ∀ {xs : List D} {st : Sto}, dcompLoop all p n0 body xs st ≠ .exc c st'
 | [], st => by
  simp only [dcompLoop]
  split <;> (intro h; cases h)
 | d :: r, st => by
  simp only [dcompLoop]
  split
  · split
    · split
      · split
        · exact dcompG_noexc
        · intro h; cases h
      · intro h; cases h
    · exact dcompG_noexc
    · intro h; cases h
  · intro h; cases h
theorem dcompLoop_ifs {prog : Program} {w : World} {A : Around} {R : Result → Shared → Prop} {s : Shared} {kx vx target iter : Expr} {ifs : List Expr} {scope : Scope} {it : Value} {dd : Addr} {env : PySem.Env} (I : Nat → Shared → Prop)
    (turn : ∀ n s, I n s → wpAny (model prog w) A (pyNext it) (fun r s₁ => match r with
      | none => R (.ok .next) s₁
      | some v => wpAny (model prog w) A (letOwnedTupleGo target it v) (fun _ s₁ => wpAny (model prog w) A (assign target env v) (fun _ s₂ =>
          wpAny (model prog w) A (forIn ifs true fun c r => if r = true then do let ok ← isTrue c env (eval c env); pure (ForInStep.yield ok) else pure (ForInStep.yield r)) (fun ok s₃ =>
            if ok = true then wpAny (model prog w) A (eval kx env) (fun kv s₄ => wpAny (model prog w) A (eval vx env) (fun vv s₅ =>
              wpAny (model prog w) A (dictSet dd kv vv) (fun _ s₆ => ∃ m, m < n ∧ I m s₆) (notedBy (model prog w) A env fun e s' => R (.error e) s') s₅) (notedBy (model prog w) A env fun e s' => R (.error e) s') s₄) (notedBy (model prog w) A env fun e s' => R (.error e) s') s₃
            else ∃ m, m < n ∧ I m s₃) (notedBy (model prog w) A env fun e s' => R (.error e) s') s₂) (notedBy (model prog w) A env fun e s' => R (.error e) s') s₁) (notedBy (model prog w) A env fun e s' => R (.error e) s') s₁) (notedBy (model prog w) A env fun e s' => R (.error e) s') s)
    (n : Nat) (h : I n s) : codeAny (model prog w) A (.compLoop (.DictComp kx vx [⟨target, iter, ifs, 0⟩] scope pos) 0 it (.ref dd) env) R s := by
  refine codeAny_loop rfl I (fun n s hI => ?_) n h
  show wpAny _ A ((compTurn (.DictComp kx vx [⟨target, iter, ifs, 0⟩] scope pos) 0 it (.ref dd) env).onRaise (fun x => do noteFrame x env; theTreesLotGoes x)) _ _ s
  refine wpAny_noted ?_
  rw [compTurn_dict]
  refine wpAny_bind (wpAny_standAt (wpAny_bind (wpAny_mono (turn n s hI) (fun r s₁ h₁ => ?_) fun _ _ h' => h')))
  cases r with
  | none => exact wpAny_pure h₁
  | some v =>
    refine wpAny_bind (wpAny_mono h₁ (fun _ s₁ h₁ => ?_) fun _ _ h' => h')
    refine wpAny_bind (wpAny_mono h₁ (fun _ s₂ h₂ => wpAny_bind (wpAny_mono h₂ (fun ok s₃ h₃ => ?_) fun _ _ h' => h')) fun _ _ h' => h')
    cases ok with
    | false => exact wpAny_pure ⟨rfl, h₃⟩
    | true =>
      exact wpAny_bind (wpAny_bind (wpAny_mono h₃ (fun kv s₄ h₄ => wpAny_bind (wpAny_holding (wpAny_mono h₄ (fun vv s₅ h₅ => wpAny_bind (wpAny_standAt (wpAny_holding (wpAny_mono h₅ (fun _ s₆ h₆ => wpAny_pure ⟨rfl, h₆⟩) fun _ _ h' => h')))) fun _ _ h' => h'))) fun _ _ h' => h'))
theorem sd_dcompG {kx vx iter target : Expr} {ifs : List Expr} {N : List Str} {nl : Nat} {fv tgs : List Nat} {one : Bool} {k : Nat} {scope : Scope} {cl : List (Str × Addr)} {it' kx' vx' : E} {ifs' : Es} (hK : X.K = g.K) (hc : X.calm = true) (hkind : scope.kind = .function) (hcell : ∀ y ∈ scope.names, y.2 ≠ .cell)
    (hnames : ∀ y ∈ scope.names, y.2 = .local → scope.names.lookup y.1 = some .local) (hclos : closureFor scope X.env = pure cl) (C : Clos X scope cl) (hN : N.length = nl + fv.length)
    (hfv : ∀ j k, fv[j]? = some k → ∃ x c, N[nl + j]? = some x ∧ X.N[k]? = some x ∧ cl.lookup x = some c ∧ (X.env.scope.names.lookup x = some .cell ∨ X.env.scope.names.lookup x = some .free) ∧ ((relabel scope X.env).names.lookup x = some .cell ∨ (relabel scope X.env).names.lookup x = some .free))
    (htg : ∀ i ∈ tgs, i < nl) (hi : SdI g X target iter k it') (hg : ∀ L s0 H0 fp pn, PG (cxG X N scope cl L s0 H0 fp pn) target (tg g.K tgs one))
    (ht : ∀ L s0 H0 fp pn, PTs (cxG X N scope cl L s0 H0 fp pn) ifs (tIfs (g.with fun _ _ _ => False) ifs')) (hkx : ∀ L s0 H0 fp pn, Sd (g.with fun _ _ _ => False) (cxG X N scope cl L s0 H0 fp pn) kx kx') (hvx : ∀ L s0 H0 fp pn, Sd (g.with fun _ _ _ => False) (cxG X N scope cl L s0 H0 fp pn) vx vx')
    (hs : ∀ x, foldedSetIterable iter X.env x = pure x := by intro _; rfl) :
    Sd g X (.DictComp kx vx [⟨target, iter, ifs, 0⟩] scope pos) (.dcomp k one nl tgs fv it' ifs' kx' vx') := by
  intro pins s sg H Q I q
  obtain ⟨rho, st, env, S, n, q⟩ := q
  obtain ⟨wi, hpi, hwi⟩ := hi
  generalize hB : dBody g tgs one (envIn nl fv env) ifs' kx' vx' = body
  have q : RQ g ((evalE g.tab g.call it' env st).bind fun d st => match itOf k st d with
      | some (xs, p) => (dcompLoop xs p st.length body xs (st ++ [.dct []])).bind fun _ st' => .ok (.loc st.length) st'
      | none => .bad) (Post g rho H Q) rho H := by
    rw [← hB]
    simp only [evalE] at q
    exact q
  rw [arm_eval_DictComp]
  refine wpAny_comprehension_free (use := none) rfl hs hclos hkind hnames ?_
  have hpi := hpi pins s sg H
    (fun J H1 => ∃ r1 st1 xs p, g.Keep rho H r1 H1 ∧ g.Sto r1 st1 H1 ∧ ItJ g J xs p r1 H1 ∧
      RQ g ((dcompLoop xs p st1.length body xs (st1 ++ [.dct []])).bind fun _ st' => .ok (.loc st1.length) st') (Post g rho H Q) r1 H1) I ?_
  · refine thn hpi fun v s1 h1 => thn h1 fun itv s2 h2 => ?_
    obtain ⟨it, fp, tn, J, H1, rfl, I2, T, st2, f2, r1, st1, xs, p, k1, S1, hJ, q1⟩ := h2
    obtain ⟨stf, hloop, q1⟩ : ∃ stf, dcompLoop xs p st1.length body xs (st1 ++ [.dct []]) = .ok () stf ∧ Post g rho H Q (.loc st1.length) stf := by
      revert q1
      cases e : dcompLoop xs p st1.length body xs (st1 ++ [.dct []]) with
      | ok u stf => exact fun q => ⟨stf, rfl, q⟩
      | exc c st2 => exact absurd e dcompG_noexc
      | bad => exact fun q => q.elim
    refine wpAny_newObj_type ?_
    have I3 := I2.laid (a := s2.heap.objs.size) (o := .dK []) (h' := s2.heap.push { cls := .type "dict", data := .dict #[] }) (t' := s2.toks) (fun _ _ q => Heap.get?_push_of_some _ q) (Nat.le_refl _) (dk_empty s2.heap I2.big)
    have hn3 := I2.fresh
    generalize hs3 : ({ s2 with heap := s2.heap.push { cls := .type "dict", data := .dict #[] } } : Shared) = s3
    have I3 : L2.Inv X pins sg (upd H1 s2.heap.objs.size (.dK [])) s3 := by rw [← hs3]; exact I3
    have hsz : s3.heap.objs.size = s2.heap.objs.size + 1 := by rw [← hs3]; exact Heap.size_push _ _
    have up3 : ∀ b o, s2.heap.get? b = some o → s3.heap.get? b = some o := fun b o e => by rw [← hs3]; exact Heap.get?_push_of_some _ e
    have hfp : ∀ b ∈ fp, FpOk X pins (upd H1 s2.heap.objs.size (.dK [])) b ∧ b < s3.heap.objs.size := fun b hb => by
      obtain ⟨o, ho, _⟩ := T.obj _ _ st2 b hb
      have hlt := Heap.lt_size ho
      refine ⟨⟨?_, (f2 b hb).2⟩, by rw [hsz]; exact Nat.lt_succ_of_lt hlt⟩
      rw [upd_ne (Nat.ne_of_lt hlt)]
      exact (f2 b hb).1
    have k13 : g.Keep r1 H1 (r1 ++ [s2.heap.objs.size]) (upd H1 s2.heap.objs.size (.dK [])) := (S1.laid hn3 (o := .dK []) (c := .dct []) ⟨[], upd_same, by simp [KvRep]⟩).1
    have S3 : g.Sto (r1 ++ [s2.heap.objs.size]) (st1 ++ [.dct []]) (upd H1 s2.heap.objs.size (.dK [])) := (S1.laid hn3 (o := .dK []) (c := .dct []) ⟨[], upd_same, by simp [KvRep]⟩).2
    have acc_at : (r1 ++ [s2.heap.objs.size])[st1.length]? = some s2.heap.objs.size := by rw [← S1.len]; simp
    generalize hH3 : upd H1 s2.heap.objs.size (.dK []) = H3 at *
    generalize hac : s2.heap.objs.size = ac at *
    generalize hr3 : r1 ++ [ac] = r3 at *
    refine wpAny_newFunctionEnv hcell (by intro y hy; simp at hy) (fun h₁ hns₁ hsb₁ => ?_) hkind
    have hk1 : ∀ b o, s3.heap.get? b = some o → h₁.get? b = some o := fun b o e => hsb₁.extBut b o (Nat.ne_of_lt (Heap.lt_size e)) (Heap.get?_push_of_some _ e)
    have J0 := compG_in (N := N) (nl := nl) (fv := fv) (tk := s3.toks + ([] : List (Str × Value)).length) hkind C hN hfv I3 hfp hns₁ hk1
    have n0 := env_in (n.mono (k1.trans k13)) nl fv
    generalize hsg0 : (List.replicate nl none ++ fv.map fun k => (sg[k]?).join : L2.St) = sg0 at J0 n0
    have tn0 : tn 0 h₁ := T.keep _ _ _ st2 fun b _ o e => hk1 b o (up3 b o e)
    have bfp : ∀ {H' : Hp}, (∀ b ∈ fp, H' b = none) → ∀ b ∈ fp, FpOk (cxG X N scope cl s3.heap.objs.size s3 H3 fp (X.pn ++ pins)) [] H' b := fun hn b hb => by
      obtain ⟨f, hlt⟩ := hfp b hb
      refine ⟨hn b hb, fun z => ?_, fp_stkG I3 f, .inl hb, fun y c h => f.2.2.2.2.1 y c (C.sub y c h), fun p hp => f.2.2.2.2.2 p (by rw [List.append_nil] at hp; exact hp)⟩
      have : s3.heap.objs.size < s3.heap.objs.size := by rw [z] at hlt; exact hlt
      exact Nat.lt_irrefl _ this
    have loop : codeAny (model X.prog X.w) X.A (.compLoop (.DictComp kx vx [⟨target, iter, ifs, 0⟩] scope pos) 0 (.ref it) (.ref ac) (envG X scope cl s3.heap.objs.size))
        (compPost (model X.prog X.w) X.A X.xe none (EP X pins sg Q) (.ref ac) s3.heap.objs.size)
        { s3 with heap := h₁, toks := s3.toks + ([] : List (Str × Value)).length } := by
      refine dcompLoop_ifs (fun mm s' => ∃ i rho' st' H' sg', L2.Inv (cxG X N scope cl s3.heap.objs.size s3 H3 fp (X.pn ++ pins)) [] sg' H' s' ∧ tn i s'.heap ∧ (∀ b ∈ fp, H' b = none) ∧ g.Keep r3 H3 rho' H' ∧ g.Sto rho' st' H' ∧ g.Env rho' H' (envIn nl fv env) sg' ∧ mm = xs.length - i ∧ i ≤ xs.length ∧
        dcompLoop xs p st1.length body (xs.drop i) st' = .ok () stf) ?_ xs.length ⟨0, r3, _, H3, sg0, J0, tn0, fun b hb => (hfp b hb).1.1, .refl _ _, S3, n0, by simp, Nat.zero_le _, hloop⟩
      rintro mm s' ⟨i, rho', st', H', sg', I', tn', fr', kk, S', n', rfl, hi, hl'⟩
      have hst : stays st' p xs = true := by
        cases z : stays st' p xs with
        | true => rfl
        | false =>
          exfalso
          cases e : xs.drop i with
          | nil => rw [e] at hl'; simp only [dcompLoop, z] at hl'; cases hl'
          | cons d t => rw [e] at hl'; simp only [dcompLoop, z] at hl'; cases hl'
      obtain ⟨jstop, jgo⟩ := hJ rho' st' H' (k13.trans kk) S' hst
      by_cases hlt : i < xs.length
      · obtain ⟨hgo, hy⟩ := jgo i xs[i] (List.getElem?_eq_getElem hlt)
        rw [List.drop_eq_getElem_cons hlt] at hl'
        simp only [dcompLoop, hst, if_true] at hl'
        refine thn (T.item (cxG X N scope cl s3.heap.objs.size s3 H3 fp (X.pn ++ pins)) rfl rfl rfl hc i [] s' sg' H' _ I' (bfp fr') tn' hgo) fun r s4 ⟨u, hr4, h4⟩ => ?_
        subst hr4
        refine thn h4 fun _ s5 ⟨x5, H5, I5, r5, y5, tn5, fr5⟩ => ?_
        obtain ⟨e5, rx5⟩ := hy x5 H5 y5
        subst e5
        have I5' := I5.pinned (bfp fr5) (T.obj _ _ tn5)
        obtain ⟨env', es⟩ : ∃ env', store tgs one xs[i] (envIn nl fv env) = some env' := by
          cases es : store tgs one xs[i] (envIn nl fv env) with
          | some env' => exact ⟨env', rfl⟩
          | none =>
            exfalso
            have : body xs[i] st' = .bad := by rw [← hB]; unfold dBody; rw [es]
            rw [this] at hl'; cases hl'
        have hbody : body xs[i] st' = (evalIfs g.tab g.call ifs' env' st').bind fun b st => if b then (evalE g.tab g.call kx' env' st).bind fun k st => (evalE g.tab g.call vx' env' st).bind fun y st => .ok (some (k, y)) st else .ok none st := by
          rw [← hB]; unfold dBody; rw [es]
        rw [hbody] at hl'
        obtain ⟨hel, hhi⟩ := store_high es htg
        refine wpAny_mono (hg s3.heap.objs.size s3 H3 fp (X.pn ++ pins) _ s5 sg' H5 x5 u (fun sg6 H6 => H6 = H5 ∧ g.Env rho' H6 env' sg6) I5' r5 (tg_store (g := g) es rx5 n' fun sg6 n6 => ⟨rfl, n6⟩)) (fun _ s6 h6 => ?_) (fun _ _ z => z.elim)
        obtain ⟨sg6, H6, I6, e6, n6⟩ := h6
        subst e6
        obtain ⟨b, st2, eb, hl'⟩ : ∃ b st2, evalIfs g.tab g.call ifs' env' st' = .ok b st2 ∧ (match (if b then (evalE g.tab g.call kx' env' st2).bind fun k st => (evalE g.tab g.call vx' env' st).bind fun y st => .ok (some (k, y)) st else .ok none st2 : Res (Option (D × D))) with
            | .ok (some (k, y)) st' => (match st'[st1.length]? with
              | some (.dct kvs) => if kvs.length < sizeLine ∧ keyD k = true then dcompLoop xs p st1.length body (xs.drop (i + 1)) (st'.set st1.length (.dct (dPut kvs k y))) else .bad
              | _ => .bad)
            | .ok none st' => dcompLoop xs p st1.length body (xs.drop (i + 1)) st'
            | _ => .bad) = Res.ok () stf := by
          cases eb : evalIfs g.tab g.call ifs' env' st' with
          | ok b st2 => rw [eb] at hl'; exact ⟨b, st2, rfl, hl'⟩
          | exc c st2 => rw [eb] at hl'; cases hl'
          | bad => rw [eb] at hl'; cases hl'
        refine wpAny_mono (ht s3.heap.objs.size s3 H3 fp (X.pn ++ pins) _ s6 sg6 H6 (fun b' H7 => b' = b ∧ ∃ rho7, g.Keep rho' H6 rho7 H7 ∧ g.Sto rho7 st2 H7) I6 ⟨rho', st', env', S', n6, ?_⟩) (fun ok s7 h7 => ?_) (fun _ _ z => z.elim)
        · show RQ (g.with fun _ _ _ => False) (evalIfs g.tab g.call ifs' env' st') _ rho' H6
          rw [eb]
          exact fun H7 rho7 k7 s7 => ⟨rfl, rho7, k7, s7⟩
        obtain ⟨H7, I7, e7, rho7, k7, S7⟩ := h7
        subst e7
        have n7 : g.Env rho7 H7 env' sg6 := n6.mono k7
        have done : ∀ (rho9 : List Addr) (st9 : Sto) (H9 : Hp) (s9 : Shared), L2.Inv (cxG X N scope cl s3.heap.objs.size s3 H3 fp (X.pn ++ pins)) ([] ++ pinsAt fp s5.heap) sg6 H9 s9 → g.Keep rho7 H7 rho9 H9 → g.Sto rho9 st9 H9 → dcompLoop xs p st1.length body (xs.drop (i + 1)) st9 = .ok () stf →
            ∃ m, m < xs.length - i ∧ ∃ i rho' st' H' sg', L2.Inv (cxG X N scope cl s3.heap.objs.size s3 H3 fp (X.pn ++ pins)) [] sg' H' s9 ∧ tn i s9.heap ∧ (∀ b ∈ fp, H' b = none) ∧ g.Keep r3 H3 rho' H' ∧ g.Sto rho' st' H' ∧ g.Env rho' H' (envIn nl fv env) sg' ∧ m = xs.length - i ∧ i ≤ xs.length ∧ dcompLoop xs p st1.length body (xs.drop i) st' = .ok () stf := by
          intro rho9 st9 H9 s9 I9 k9 S9 hl9
          refine ⟨xs.length - (i + 1), by omega, i + 1, rho9, st9, H9, sg6, I9.unpinned, T.keep _ _ _ tn5 fun b hb o e => (I9.pin (b, o) (List.mem_append_right _ (List.mem_append_right _ (mem_pinsAt hb e)))).1, fun b hb => ?_, (kk.trans k7).trans k9, S9, env_back rfl hel hhi (n7.mono k9), rfl, hlt, hl9⟩
          obtain ⟨o, e, d⟩ := T.obj _ _ tn5 b hb
          exact (I9.pin (b, o) (List.mem_append_right _ (List.mem_append_right _ (mem_pinsAt hb e)))).2.1
        cases ok with
        | false =>
          rw [if_neg Bool.false_ne_true]
          simp only [Bool.false_eq_true, if_false] at hl'
          exact done rho7 st2 H7 s7 I7 (.refl _ _) S7 hl'
        | true =>
          rw [if_pos rfl]
          simp only [if_true] at hl'
          obtain ⟨kd, st3, ek, hl'⟩ : ∃ kd st3, evalE g.tab g.call kx' env' st2 = .ok kd st3 ∧ (match ((evalE g.tab g.call vx' env' st3).bind fun y st => .ok (some (kd, y)) st : Res (Option (D × D))) with
            | .ok (some (k, y)) st' => (match st'[st1.length]? with
              | some (.dct kvs) => if kvs.length < sizeLine ∧ keyD k = true then dcompLoop xs p st1.length body (xs.drop (i + 1)) (st'.set st1.length (.dct (dPut kvs k y))) else .bad
              | _ => .bad)
            | .ok none st' => dcompLoop xs p st1.length body (xs.drop (i + 1)) st'
            | _ => .bad) = Res.ok () stf := by
            cases ek : evalE g.tab g.call kx' env' st2 with
            | ok kd st3 => rw [ek] at hl'; exact ⟨kd, st3, rfl, hl'⟩
            | exc c st4 => rw [ek] at hl'; cases hl'
            | bad => rw [ek] at hl'; cases hl'
          obtain ⟨y, st4, ee, hl'⟩ : ∃ y st4, evalE g.tab g.call vx' env' st3 = .ok y st4 ∧ (match st4[st1.length]? with
              | some (.dct kvs) => if kvs.length < sizeLine ∧ keyD kd = true then dcompLoop xs p st1.length body (xs.drop (i + 1)) (st4.set st1.length (.dct (dPut kvs kd y))) else .bad
              | _ => .bad) = Res.ok () stf := by
            cases ee : evalE g.tab g.call vx' env' st3 with
            | ok y st4 => rw [ee] at hl'; exact ⟨y, st4, rfl, hl'⟩
            | exc c st4 => rw [ee] at hl'; cases hl'
            | bad => rw [ee] at hl'; cases hl'
          obtain ⟨kvs, ey, ⟨hys, hkd⟩, hl'⟩ : ∃ kvs, st4[st1.length]? = some (.dct kvs) ∧ (kvs.length < sizeLine ∧ keyD kd = true) ∧ dcompLoop xs p st1.length body (xs.drop (i + 1)) (st4.set st1.length (.dct (dPut kvs kd y))) = .ok () stf := by
            split at hl'
            · rename_i kvs ey
              split at hl'
              · rename_i hys; exact ⟨kvs, ey, hys, hl'⟩
              · cases hl'
            · cases hl'
          refine wpAny_mono (hkx s3.heap.objs.size s3 H3 fp (X.pn ++ pins) _ s7 sg6 H7 (fun w H8 => ∃ rho8, g.Keep rho7 H7 rho8 H8 ∧ g.Sto rho8 st3 H8 ∧ g.Rep rho8 H8 kd w) I7 ⟨rho7, st2, env', S7, n7, ?_⟩) (fun kv s8 h8 => ?_) (fun _ _ z => z.elim)
          · show RQ (g.with fun _ _ _ => False) (evalE g.tab g.call kx' env' st2) _ rho7 H7
            rw [ek]
            exact fun w H8 rho8 k8 s8 r8 => ⟨rho8, k8, s8, r8⟩
          obtain ⟨wk, H8, I8, rw8, rho8, k8, S8, rp8⟩ := h8
          refine wpAny_mono (hvx s3.heap.objs.size s3 H3 fp (X.pn ++ pins) _ s8 sg6 H8 (fun w H9 => ∃ rho9, g.Keep rho8 H8 rho9 H9 ∧ g.Sto rho9 st4 H9 ∧ g.Rep rho9 H9 y w) I8 ⟨rho8, st3, env', S8, n7.mono k8, ?_⟩) (fun yv s9 h9 => ?_) (fun _ _ z => z.elim)
          · show RQ (g.with fun _ _ _ => False) (evalE g.tab g.call vx' env' st3) _ rho8 H8
            rw [ee]
            exact fun w H9 rho9 k9 s9 r9 => ⟨rho9, k9, s9, r9⟩
          obtain ⟨w, H9, I9, rw9, rho9, k9, S9, rp9⟩ := h9
          obtain ⟨kk9, ekk⟩ := kD_key hkd
          have rpk := rp8.mono k9
          cases rep_kD rpk ekk
          have edc : dctOf st4 st1.length = some kvs := by unfold dctOf; rw [ey]
          obtain ⟨a9, ws, hr9, _, hH9, kv9⟩ := sto_dct S9 edc
          rw [k9.at (k8.at (k7.at (kk.at acc_at)))] at hr9; cases hr9
          obtain ⟨k10, S10⟩ := wrote_dct S9 (k9.at (k8.at (k7.at (kk.at acc_at)))) ey hH9 (kv_put ekk rp9 kv9)
          exact d_dictSet (X := cxG X N scope cl s3.heap.objs.size s3 H3 fp (X.pn ++ pins)) I9 hH9 (by rw [← kv_len kv9]; exact hys) rw8 rw9 fun s10 I10 => done rho9 _ _ s10 I10 ((k8.trans k9).trans k10) S10 hl'
      · have ei : i = xs.length := by omega
        subst ei
        refine thn (T.done (cxG X N scope cl s3.heap.objs.size s3 H3 fp (X.pn ++ pins)) rfl rfl rfl hc xs.length [] s' sg' H' _ I' (bfp fr') tn' jstop) fun r s4 ⟨hr4, I4⟩ => ?_
        subst hr4
        rw [List.drop_eq_nil_of_le (Nat.le_refl _)] at hl'
        simp only [dcompLoop, hst, if_true] at hl'
        cases hl'
        obtain ⟨m4, hn4, _⟩ := I4.loc
        refine ⟨m4, hn4, fun h' sb => ?_⟩
        refine ⟨.ref ac, H', ?_, rfl, q1 (.ref ac) H' rho' ((k1.trans k13).trans kk) S' (rep_loc.mpr ⟨ac, kk.at acc_at, rfl⟩)⟩
        have u4 : Un (frs X.stack) fp H3 H' s3.heap s4.heap := I4.base
        have hL : ∀ b o, s3.heap.get? b = some o → b ≠ s3.heap.objs.size := fun b o e => Nat.ne_of_lt (Heap.lt_size e)
        have fL : H' s3.heap.objs.size = none := I4.free
        refine I3.call' (s' := { s4 with heap := h' }) (ch := fp) I4.os ⟨fun b o e n hb hx => (sb.2 b (hL b o e)).trans (u4.keep b o e n hb hx), fun b o e n hb hx => ?_, u4.free, fun b o e hx => ?_, u4.tups, u4.frzs, u4.tbls⟩ (fun b o e => ?_) I4.bare fun b hb => ?_
        · obtain ⟨sl, e1⟩ := u4.slot b o e n hb hx
          exact ⟨sl, (sb.2 b (hL b o e)).trans e1⟩
        · obtain ⟨o', e1⟩ := u4.there b o e hx
          exact ⟨o', (sb.2 b (hL b o e)).trans e1⟩
        · refine (I4.hok b o e).stay (fun c u hc' g' => (sb.2 c ?_).trans g') (fun _ h => h) fun _ _ h => h
          intro z
          rcases hc' with rfl | hc'
          · rw [z, fL] at e; cases e
          · rw [z, fL] at hc'; cases hc'
        · obtain ⟨f, _⟩ := hfp b hb
          exact ⟨f.2.2.2.1, f.2.1, f.2.2.2.2.1, f.2.2.2.2.2⟩
    exact codeAny_compStart_dict loop (T.self _ 0 _ _ _ tn0 loop)
  · refine hwi rho st env sg H _ S n ?_
    revert q
    cases evalE g.tab g.call it' env st with
    | bad => exact fun q => q
    | exc c st1 => exact fun q => q
    | ok d st1 =>
      simp only [bind_ok]
      intro q
      cases ei : itOf k st1 d with
      | none => rw [ei] at q; exact q.elim
      | some xp =>
        obtain ⟨xs, p⟩ := xp
        rw [ei] at q
        exact ⟨xs, p, ei, fun H1 r1 J k1 s1 hJ => ⟨r1, st1, xs, p, k1, s1, hJ, RQ.mono k1 q fun _ _ z => z⟩⟩
end DD
namespace DD
open PySem PySem.Spec L2
open PyProof.Rows hiding St RelV
variable {g : G} {X : Cx} {pos pos' apos cpos : Pos} {F : Nat} {a b c : Expr} {a' b' c' : E}
abbrev RelY (x : D × Addr × V) (y : D × Addr × Value) : Prop := x.1 = y.1 ∧ x.2.1 = y.2.1 ∧ RelV x.2.2 y.2.2
noncomputable def nPut (xs : List (D × Addr × V)) (k : D) (q : Addr) (v : V) : List (D × Addr × V) := if (xs.any fun x => decide (x.1 = k)) = true then xs.map fun x => if x.1 = k then (x.1, x.2.1, v) else x else xs ++ [(k, q, v)]
theorem any_at {ys : List (D × Addr × Value)} {k : D} : (atKey ys k).isSome = ys.any fun y => decide (y.1 = k) := by
 induction ys with
 | nil => rfl
 | cons y t ih =>
  by_cases e : y.1 = k
  · simp [atKey, e]
  · simpa [atKey, e] using ih
theorem nput_rel {k : D} {q : Addr} {v : V} {u : Value} (rv : RelV v u) {xs : List (D × Addr × V)} {ys : List (D × Addr × Value)} (h : Paired RelY xs ys) : Paired RelY (nPut xs k q v) (storedH ys k q u) := by
 have ha : (xs.any fun x => decide (x.1 = k)) = ys.any fun y => decide (y.1 = k) := by
  induction h with
  | nil => rfl
  | cons p t ih => simp only [List.any_cons, ih, p.1]
 unfold nPut storedH
 rw [ha, any_at]
 split
 · clear ha
   rename_i hz
   clear hz
   induction h with
   | nil => exact .nil
   | @cons x y t r p q2 ih =>
    obtain ⟨p1, p2, p3⟩ := p
    refine .cons ?_ ih
    unfold putAt
    dsimp only
    by_cases e : x.1 = k
    · rw [if_pos e, if_pos (by rw [← p1]; exact e)]; exact ⟨p1, p2, rv⟩
    · rw [if_neg e, if_neg (by rw [← p1]; exact e)]; exact ⟨p1, p2, p3⟩
 · clear ha
   rename_i hz
   clear hz
   induction h with
   | nil => exact .cons ⟨rfl, rfl, rv⟩ .nil
   | cons p t ih => exact .cons p ih
theorem nd_back {w : World} (hw : w = X.w) {h : Heap} {p : Addr} {xs : List (D × Addr × V)} {ys : List (D × Addr × Value)} (hm : (p == sysModules) = false) (hz : xs.length ≤ sizeLine) (r : Paired RelY xs ys) (dd : h.DictOfH (nestKind X.prog X.w) p ys) : NDict w p xs h := by
 obtain ⟨o, es, ep, h1, h2, h3, h4, h6, h5⟩ := dd
 clear h6
 have e1 : xs.map (·.1) = ys.map (·.1) := by
  clear h4 h5 hz
  induction r with
  | nil => rfl
  | cons p t ih => rw [List.map_cons, List.map_cons, ih]; congr 1; exact p.1
 refine ⟨hm, hz, by rw [e1]; exact h5, o, es, ep, h1, h2, h3, ?_⟩
 rw [h4, hw]
 clear h4 h5 e1 hz
 induction r with
 | nil => exact .nil
 | @cons x y t r p q ih =>
  obtain ⟨p1, p2, p3⟩ := p
  rw [List.map_cons]
  exact .cons ⟨by rw [p1]; rfl, by rw [p2]; rfl, p3⟩ ih
theorem nd_local {w : World} {p : Addr} {xs : List (D × Addr × V)} : ∀ h1 h2 : Heap, NDict w p xs h1 → (∀ o, h1.get? p = some o → h2.get? p = some o) → NDict w p xs h2 := fun h1 h2 ⟨a, b, c, o, es, ep, e, r⟩ k => ⟨a, b, c, o, es, ep, k o e, r⟩
theorem nput_len (xs : List (D × Addr × V)) (k : D) (q : Addr) (v : V) : (nPut xs k q v).length ≤ xs.length + 1 := by
 unfold nPut; split <;> simp
theorem nv_len {rho : List Addr} {H : Hp} : ∀ {kvs : List (D × D)} {xs : List (D × Addr × V)}, NvRep g.K rho H kvs xs → kvs.length = xs.length
 | [], xs, h => by simp only [NvRep] at h; subst h; rfl
 | (x, d) :: r, xs, h => by
  simp only [NvRep] at h
  obtain ⟨b, v, t, rfl, _, _, _, q⟩ := h
  simp [nv_len q]
theorem nv_put {rho : List Addr} {H : Hp} {k y : D} {q : Addr} {v : V} (hk : keyN k = true) (rk : g.Rep rho H k (.ref q)) (ry : g.Rep rho H y v) {kvs : List (D × D)} {xs : List (D × Addr × V)} (h : NvRep g.K rho H kvs xs) : NvRep g.K rho H (dPut kvs k y) (nPut xs k q v) := by
 have ha : ∀ {kvs : List (D × D)} {xs : List (D × Addr × V)}, NvRep g.K rho H kvs xs → (kvs.any fun p => decide (p.1 = k)) = xs.any fun x => decide (x.1 = k) := by
  intro kvs
  induction kvs with
  | nil => intro xs h; simp only [NvRep] at h; subst h; rfl
  | cons p t ih =>
   intro xs h
   obtain ⟨x, d⟩ := p
   simp only [NvRep] at h
   obtain ⟨b, v, t2, rfl, _, _, _, q⟩ := h
   simp only [List.any_cons, ih q]
 have hmap : ∀ {kvs : List (D × D)} {xs : List (D × Addr × V)}, NvRep g.K rho H kvs xs → NvRep g.K rho H (kvs.map fun p => if p.1 = k then (p.1, y) else p) (xs.map fun x => if x.1 = k then (x.1, x.2.1, v) else x) := by
  intro kvs
  induction kvs with
  | nil => intro xs h; simp only [NvRep] at h; subst h; simp [NvRep]
  | cons p t ih =>
   intro xs h
   obtain ⟨x, d⟩ := p
   simp only [NvRep] at h
   obtain ⟨b, v2, t2, rfl, h1, h2, h3, q⟩ := h
   by_cases e : x = k
   · simp only [List.map_cons, if_pos e, NvRep]
     exact ⟨b, v, _, rfl, h1, h2, ry, ih q⟩
   · simp only [List.map_cons, if_neg e, NvRep]
     exact ⟨b, v2, _, rfl, h1, h2, h3, ih q⟩
 have hsn : ∀ {kvs : List (D × D)} {xs : List (D × Addr × V)}, NvRep g.K rho H kvs xs → NvRep g.K rho H (kvs ++ [(k, y)]) (xs ++ [(k, q, v)]) := by
  intro kvs
  induction kvs with
  | nil => intro xs h; simp only [NvRep] at h; subst h; simp only [List.nil_append, NvRep]; exact ⟨q, v, [], rfl, hk, rk, ry, rfl⟩
  | cons p t ih =>
   intro xs h
   obtain ⟨x, d⟩ := p
   simp only [NvRep] at h
   obtain ⟨b, v2, t2, rfl, h1, h2, h3, q⟩ := h
   simp only [List.cons_append, NvRep]
   exact ⟨b, v2, _, rfl, h1, h2, h3, ih q⟩
 unfold dPut nPut
 rw [ha h]
 split
 · exact hmap h
 · exact hsn h
theorem nd_put (hK : X.K = g.K) (hw : g.cls.w = X.w) (hu : X.A.units + 64 < cLine) {pins : List (Addr × Obj)} {sg : L2.St} {H : Hp} {s : Shared} {rho : List Addr} {p : Addr} {kvs : List (D × D)} {xs : List (D × Addr × V)} {k : D} {kv v : V} {uk uv : Value} {Q : Unit → Shared → Prop} {E : Value → Shared → Prop} (I : Inv X pins sg H s) (hH : H p = some (.ext (NDict g.cls.w p xs))) (nv : NvRep g.K rho H kvs xs) (rk : g.Rep rho H k kv) (hk : keyN k = true) (rkv : RelV kv uk) (rv : RelV v uv) (hl : kvs.length < sizeLine)
    (h : ∀ q s', kv = .ref q → Inv X pins sg (upd H p (.ext (NDict g.cls.w p (nPut xs k q v)))) s' → Q () s') : wpAny (model X.prog X.w) X.A (setItem (.ref p) uk uv) Q E s := by
  obtain ⟨q9, ik, rfl⟩ := rep_keyN hK I rk hk rkv
  have ekv : kv = .ref q9 := by
    cases k with
    | tup ds => obtain ⟨q, vs, rfl, _⟩ := rep_tup.mp rk; cases rkv; rfl
    | _ => cases hk
  obtain ⟨hm, hz, ys, pr, dd⟩ := nd_of hK hw I hH nv
  have hyl : ys.length = xs.length := (Paired.length pr).symm
  have hxl := nv_len nv
  refine wpAny_setItem_heap (knd := nestKind X.prog X.w) (by show X.A.units + 1 + 16 < cLine; omega) ik dd (fun h' dd' hs => h q9 _ ekv ?_) (by omega)
  have new := nd_back (X := X) hw hm (by have := nput_len xs k q9 v; omega) (nput_rel rv pr) dd'
  have he : ∃ q, h'.get? p = some q := let ⟨q, _, _, hq, _⟩ := dd'; ⟨q, hq⟩
  exact d_write I (by rw [hH]; exact True.intro) hs he ⟨new, he, nd_local⟩
noncomputable def putR (env : Env) (x kk y : D) (st : Sto) : Res Fl := match x with
 | .loc n => match dctOf st n with
  | some kvs => if keyD kk = true ∧ kvs.length < sizeLine then .ok (.next env) (st.set n (.dct (dPut kvs kk y))) else .bad
  | none => match dcnOf st n with
   | some kvs => if keyN kk = true ∧ kvs.length < sizeLine then .ok (.next env) (st.set n (.dcn (dPut kvs kk y))) else .bad
   | none => match st[n]?, kk with
    | some (.lst xs), .int i => if 0 ≤ i ∧ i < xs.length then .ok (.next env) (st.set n (.lst (xs.set i.toNat y))) else .bad
    | _, _ => .bad
 | _ => .bad
theorem RepL.set {rho : List Addr} {H : Hp} {y : D} {v : V} : ∀ {ds : List D} {vs : List V} (i : Nat), g.Rep rho H y v → g.RepL rho H ds vs → g.RepL rho H (ds.set i y) (vs.set i v)
 | [], vs, i, _, r => by simp only [DD.RepL] at r; subst r; simp [DD.RepL]
 | d :: t, vs, 0, ry, r => by
  simp only [DD.RepL] at r
  obtain ⟨x, w, rfl, r1, r2⟩ := r
  simp only [List.set_cons_zero, DD.RepL]
  exact ⟨v, w, rfl, ry, r2⟩
 | d :: t, vs, i + 1, ry, r => by
  simp only [DD.RepL] at r
  obtain ⟨x, w, rfl, r1, r2⟩ := r
  simp only [List.set_cons_succ, DD.RepL]
  exact ⟨x, _, rfl, r1, RepL.set i ry r2⟩
theorem s_dput {o i value : Expr} {o' i' v' : E} (hK : X.K = g.K) (hw : g.cls.w = X.w) (hu : X.A.units + 64 < cLine) (ho : Sd g X o o') (hi : Sd g X i i') (hv : Sd g X value v') (hs : swapsWith value (some (.Subscript o i pos')) pos.line X.env = pure false := by rfl) :
    SdS g X F (.Assign [.Subscript o i pos'] value pos) (.dput o' i' v') := by
  intro pins s sg H D I h
  obtain ⟨rho, st, env, S, n, q⟩ := h
  have q : RQ g ((evalE g.tab g.call v' env st).bind fun y st => (evalE g.tab g.call o' env st).bind fun x st => (evalE g.tab g.call i' env st).bind fun kk st => putR env x kk y st) (PostF g rho H D) rho H := by
    simp only [execS] at q
    exact q
  refine wpAny_Assign_Subscript (thn (hv pins s sg H (fun v H1 => ∃ r1 st1 y, g.Keep rho H r1 H1 ∧ g.Sto r1 st1 H1 ∧ g.Env r1 H1 env sg ∧ g.Rep r1 H1 y v ∧ RQ g ((evalE g.tab g.call o' env st1).bind fun x st => (evalE g.tab g.call i' env st).bind fun kk st => putR env x kk y st) (PostF g rho H D) r1 H1) I
    (step S n q fun y st1 v H1 r1 k1 s1 n1 ry q1 => ⟨r1, st1, y, k1, s1, n1, ry, q1⟩)) fun r s1 ⟨v, H1, I1, rv, r1, st1, y, k1, S1, n1, ry, q1⟩ => ?_) hs
  refine thn (ho pins s1 sg H1 (fun w H2 => ∃ r2 st2 x, g.Keep r1 H1 r2 H2 ∧ g.Sto r2 st2 H2 ∧ g.Env r2 H2 env sg ∧ g.Rep r2 H2 x w ∧ RQ g ((evalE g.tab g.call i' env st2).bind fun kk st => putR env x kk y st) (PostF g rho H D) r2 H2) I1
    (step S1 n1 q1 fun x st2 w H2 r2 k2 s2 n2 rx q2 => ⟨r2, st2, x, k2, s2, n2, rx, q2⟩)) fun ov s2 ⟨w, H2, I2, rov, r2, st2, x, k2, S2, n2, rx, q2⟩ => ?_
  refine thn (hi pins s2 sg H2 (fun z H3 => ∃ r3 st3 kk, g.Keep r2 H2 r3 H3 ∧ g.Sto r3 st3 H3 ∧ g.Env r3 H3 env sg ∧ g.Rep r3 H3 kk z ∧ RQ g (putR env x kk y st3) (PostF g rho H D) r3 H3) I2
    (step S2 n2 q2 fun kk st3 z H3 r3 k3 s3 n3 rk q3 => ⟨r3, st3, kk, k3, s3, n3, rk, q3⟩)) fun iv s3 ⟨z, H3, I3, riv, r3, st3, kk, k3, S3, n3, rk, q3⟩ => ?_
  unfold putR at q3
  have ry3 := (ry.mono k2).mono k3
  have rx3 := rx.mono k3
  have kall := (k1.trans k2).trans k3
  cases x with
  | loc m =>
    obtain ⟨p, hp, rfl⟩ := rep_loc.mp rx3
    obtain rfl : ov = Value.ref p := rov
    simp only at q3
    cases e : dctOf st3 m with
    | some kvs =>
      rw [e] at q3
      simp only at q3
      split at q3
      · rename_i hk
        obtain ⟨k, ek⟩ := kD_key hk.1
        obtain ⟨p2, ws, h1, hc, h2, kv⟩ := sto_dct S3 e
        rw [hp] at h1; cases h1
        cases rep_kD rk ek
        obtain ⟨k4, S4⟩ := wrote_dct S3 hp hc h2 (kv_put ek ry3 kv)
        exact d_setItem (by omega) I3 (DPut.k h2 (by rw [← kv_len kv]; exact hk.2)) riv rv fun s4 I4 => ⟨_, _, I4, (show PostF g rho H D (.next env) _ from q3) _ _ r3 (kall.trans k4) S4 (n3.mono k4)⟩
      · exact q3.elim
    | none =>
      rw [e] at q3
      simp only at q3
      cases e9 : dcnOf st3 m with
      | none =>
        rw [e9] at q3
        simp only at q3
        split at q3
        · rename_i xs i el
          split at q3
          · rename_i hi
            obtain ⟨p2, vs, hr, hH, rl⟩ := sto_lst S3 el
            rw [hp] at hr; cases hr
            have hl := rl.length
            obtain ⟨k4, S4⟩ := S3.wrote (ds := xs.set i.toNat y) (ws := vs.set i.toNat v) hp el hH (RepL.set i.toNat ry3 rl)
            refine wpAny_mono (set_list pins s3 sg H3 (.ref p) z v (.ref p) iv r (fun H' => H' = upd H3 p (.lst (vs.set i.toNat v))) I3 rfl riv rv ⟨p, vs, i, i.toNat, rfl, rep_int.mp rk, hH, ?_, rfl⟩) (fun _ s4 h4 => ?_) (fun _ _ h => h)
            · unfold L2.ixN
              rw [if_pos hi.1, if_pos (by rw [← hl]; exact hi.2)]
            · obtain ⟨H4, I4, rfl⟩ := h4
              exact ⟨_, _, I4, (show PostF g rho H D (.next env) _ from q3) _ _ r3 (kall.trans k4) S4 (n3.mono k4)⟩
          · exact q3.elim
        · exact q3.elim
      | some kvs =>
        rw [e9] at q3
        simp only at q3
        split at q3
        · rename_i hk
          obtain ⟨p2, xs, h1, hc, h2, nv⟩ := sto_dcn S3 e9
          rw [hp] at h1; cases h1
          refine nd_put hK hw hu I3 h2 nv rk hk.1 riv rv hk.2 fun q s4 ez I4 => ?_
          subst ez
          obtain ⟨k4, S4⟩ := S3.wroteC (o := .ext (NDict g.cls.w p (nPut xs kk q v))) (c1 := .dcn (dPut kvs kk y)) hp hc rfl h2 ⟨fun _ => nofun, fun _ _ => nofun⟩ fun H4 eH k5 => ⟨_, eH, (nv_put hk.1 rk ry3 nv).mono k5⟩
          exact ⟨_, _, I4, (show PostF g rho H D (.next env) _ from q3) _ _ r3 (kall.trans k4) S4 (n3.mono k4)⟩
        · exact q3.elim
  | _ => exact q3.elim
theorem sd_dnewN (hw : g.cls.w = X.w) : Sd g X (.Dict [] [] pos) .dnewN := fun pins s sg H Q I h => by
 obtain ⟨rho, st, env, S, n, q⟩ := h
 simp only [evalE] at q
 have q : Post g rho H Q (.loc st.length) (st ++ [.dcn []]) := q
 have hp := I.hok.fresh (Nat.le_refl s.heap.objs.size)
 have new : NDict g.cls.w s.heap.objs.size [] (s.heap.push { cls := .type "dict", data := .dict #[] }) := ⟨beq_eq_false_iff_ne.mpr (Ne.symm (Nat.ne_of_lt I.big)), Nat.zero_le _, List.nodup_nil, _, #[], 0, Heap.get?_push_size _ rfl, ⟨rfl, rfl, rfl⟩, rfl, .nil⟩
 obtain ⟨k2, s2⟩ := S.laid hp (o := .ext (NDict g.cls.w s.heap.objs.size [])) (c := .dcn []) ⟨[], upd_same, by simp [NvRep]⟩
 exact wpAny_Dict_empty ⟨.ref s.heap.objs.size, _, I.laid (a := s.heap.objs.size) (o := .ext (NDict g.cls.w s.heap.objs.size [])) (t' := s.toks) (fun _ _ q => Heap.get?_push_of_some _ q) (Nat.le_refl _) ⟨new, ⟨_, Heap.get?_push_size _ rfl⟩, nd_local⟩, rfl, q (.ref s.heap.objs.size) _ _ k2 s2 (rep_loc.mpr ⟨_, by rw [← S.len]; simp, rfl⟩)⟩
end DD
namespace DD
open PySem PySem.Spec L2
open PyProof.Rows hiding St RelV
variable {g : G} {X : Cx} {pos : Pos} {F : Nat}
theorem nd_dset (hK : X.K = g.K) (hw : g.cls.w = X.w) (hu : X.A.units + 64 < cLine) {pins : List (Addr × Obj)} {sg : L2.St} {H : Hp} {s : Shared} {rho : List Addr} {p : Addr} {kvs : List (D × D)} {xs : List (D × Addr × V)} {k : D} {kv v : V} {uk uv : Value} {Q : Unit → Shared → Prop} {E : Value → Shared → Prop} (I : Inv X pins sg H s) (hH : H p = some (.ext (NDict g.cls.w p xs))) (nv : NvRep g.K rho H kvs xs) (rk : g.Rep rho H k kv) (hk : keyN k = true) (rkv : RelV kv uk) (rv : RelV v uv) (hl : kvs.length < sizeLine)
    (h : ∀ q s', kv = .ref q → Inv X pins sg (upd H p (.ext (NDict g.cls.w p (nPut xs k q v)))) s' → Q () s') : wpAny (model X.prog X.w) X.A (dictSet p uk uv) Q E s := by
  obtain ⟨q9, ik, rfl⟩ := rep_keyN hK I rk hk rkv
  have ekv : kv = .ref q9 := by
    cases k with
    | tup ds => obtain ⟨q, vs, rfl, _⟩ := rep_tup.mp rk; cases rkv; rfl
    | _ => cases hk
  obtain ⟨hm, hz, ys, pr, dd⟩ := nd_of hK hw I hH nv
  have hyl : ys.length = xs.length := (Paired.length pr).symm
  have hxl := nv_len nv
  refine wpAny_dictSet_heap (knd := nestKind X.prog X.w) (by show X.A.units + 16 < cLine; omega) ik dd (fun h' dd' hs => h q9 _ ekv ?_) (by omega)
  have new := nd_back (X := X) hw hm (by have := nput_len xs k q9 v; omega) (nput_rel rv pr) dd'
  have he : ∃ q, h'.get? p = some q := let ⟨q, _, _, hq, _⟩ := dd'; ⟨q, hq⟩
  exact d_write I (by rw [hH]; exact True.intro) hs he ⟨new, he, nd_local⟩
theorem dcompN_noexc {all : List D} {p : Option Nat} {n0 : Nat} {body : D → Sto → Res (Option (D × D))} {c : Nat} {st' : Sto} : ∀ {xs : List D} {st : Sto}, dcompLoopN all p n0 body xs st ≠ .exc c st'
 | [], st => by
  simp only [dcompLoopN]
  split <;> (intro h; cases h)
 | d :: r, st => by
  simp only [dcompLoopN]
  split
  · split
    · split
      · split
        · exact dcompN_noexc
        · intro h; cases h
      · intro h; cases h
    · exact dcompN_noexc
    · intro h; cases h
  · intro h; cases h
theorem sd_dcompN {kx vx iter target : Expr} {ifs : List Expr} {N : List Str} {nl : Nat} {fv tgs : List Nat} {one : Bool} {k : Nat} {scope : Scope} {cl : List (Str × Addr)} {it' kx' vx' : E} {ifs' : Es} (hK : X.K = g.K) (hw : g.cls.w = X.w) (hu : X.A.units + 64 < cLine) (hc : X.calm = true) (hkind : scope.kind = .function) (hcell : ∀ y ∈ scope.names, y.2 ≠ .cell)
    (hnames : ∀ y ∈ scope.names, y.2 = .local → scope.names.lookup y.1 = some .local) (hclos : closureFor scope X.env = pure cl) (C : Clos X scope cl) (hN : N.length = nl + fv.length)
    (hfv : ∀ j k, fv[j]? = some k → ∃ x c, N[nl + j]? = some x ∧ X.N[k]? = some x ∧ cl.lookup x = some c ∧ (X.env.scope.names.lookup x = some .cell ∨ X.env.scope.names.lookup x = some .free) ∧ ((relabel scope X.env).names.lookup x = some .cell ∨ (relabel scope X.env).names.lookup x = some .free))
    (htg : ∀ i ∈ tgs, i < nl) (hi : SdI g X target iter k it') (hg : ∀ L s0 H0 fp pn, PG (cxG X N scope cl L s0 H0 fp pn) target (tg g.K tgs one))
    (ht : ∀ L s0 H0 fp pn, PTs (cxG X N scope cl L s0 H0 fp pn) ifs (tIfs (g.with fun _ _ _ => False) ifs')) (hkx : ∀ L s0 H0 fp pn, Sd (g.with fun _ _ _ => False) (cxG X N scope cl L s0 H0 fp pn) kx kx') (hvx : ∀ L s0 H0 fp pn, Sd (g.with fun _ _ _ => False) (cxG X N scope cl L s0 H0 fp pn) vx vx')
    (hs : ∀ x, foldedSetIterable iter X.env x = pure x := by intro _; rfl) :
    Sd g X (.DictComp kx vx [⟨target, iter, ifs, 0⟩] scope pos) (.dcompN k one nl tgs fv it' ifs' kx' vx') := by
  intro pins s sg H Q I q
  obtain ⟨rho, st, env, S, n, q⟩ := q
  obtain ⟨wi, hpi, hwi⟩ := hi
  generalize hB : dBody g tgs one (envIn nl fv env) ifs' kx' vx' = body
  have q : RQ g ((evalE g.tab g.call it' env st).bind fun d st => match itOf k st d with
      | some (xs, p) => (dcompLoopN xs p st.length body xs (st ++ [.dcn []])).bind fun _ st' => .ok (.loc st.length) st'
      | none => .bad) (Post g rho H Q) rho H := by
    rw [← hB]
    simp only [evalE] at q
    exact q
  rw [arm_eval_DictComp]
  refine wpAny_comprehension_free (use := none) rfl hs hclos hkind hnames ?_
  have hpi := hpi pins s sg H
    (fun J H1 => ∃ r1 st1 xs p, g.Keep rho H r1 H1 ∧ g.Sto r1 st1 H1 ∧ ItJ g J xs p r1 H1 ∧
      RQ g ((dcompLoopN xs p st1.length body xs (st1 ++ [.dcn []])).bind fun _ st' => .ok (.loc st1.length) st') (Post g rho H Q) r1 H1) I ?_
  · refine thn hpi fun v s1 h1 => thn h1 fun itv s2 h2 => ?_
    obtain ⟨it, fp, tn, J, H1, rfl, I2, T, st2, f2, r1, st1, xs, p, k1, S1, hJ, q1⟩ := h2
    obtain ⟨stf, hloop, q1⟩ : ∃ stf, dcompLoopN xs p st1.length body xs (st1 ++ [.dcn []]) = .ok () stf ∧ Post g rho H Q (.loc st1.length) stf := by
      revert q1
      cases e : dcompLoopN xs p st1.length body xs (st1 ++ [.dcn []]) with
      | ok u stf => exact fun q => ⟨stf, rfl, q⟩
      | exc c st2 => exact absurd e dcompN_noexc
      | bad => exact fun q => q.elim
    refine wpAny_newObj_type ?_
    have new : NDict g.cls.w s2.heap.objs.size [] (s2.heap.push { cls := .type "dict", data := .dict #[] }) := ⟨beq_eq_false_iff_ne.mpr (Ne.symm (Nat.ne_of_lt I2.big)), Nat.zero_le _, List.nodup_nil, _, #[], 0, Heap.get?_push_size _ rfl, ⟨rfl, rfl, rfl⟩, rfl, .nil⟩
    have I3 := I2.laid (a := s2.heap.objs.size) (o := .ext (NDict g.cls.w s2.heap.objs.size [])) (h' := s2.heap.push { cls := .type "dict", data := .dict #[] }) (t' := s2.toks) (fun _ _ q => Heap.get?_push_of_some _ q) (Nat.le_refl _) ⟨new, ⟨_, Heap.get?_push_size _ rfl⟩, nd_local⟩
    clear new
    have hn3 := I2.fresh
    generalize hs3 : ({ s2 with heap := s2.heap.push { cls := .type "dict", data := .dict #[] } } : Shared) = s3
    have I3 : L2.Inv X pins sg (upd H1 s2.heap.objs.size (.ext (NDict g.cls.w s2.heap.objs.size []))) s3 := by rw [← hs3]; exact I3
    have hsz : s3.heap.objs.size = s2.heap.objs.size + 1 := by rw [← hs3]; exact Heap.size_push _ _
    have up3 : ∀ b o, s2.heap.get? b = some o → s3.heap.get? b = some o := fun b o e => by rw [← hs3]; exact Heap.get?_push_of_some _ e
    have hfp : ∀ b ∈ fp, FpOk X pins (upd H1 s2.heap.objs.size (.ext (NDict g.cls.w s2.heap.objs.size []))) b ∧ b < s3.heap.objs.size := fun b hb => by
      obtain ⟨o, ho, _⟩ := T.obj _ _ st2 b hb
      have hlt := Heap.lt_size ho
      refine ⟨⟨?_, (f2 b hb).2⟩, by rw [hsz]; exact Nat.lt_succ_of_lt hlt⟩
      rw [upd_ne (Nat.ne_of_lt hlt)]
      exact (f2 b hb).1
    have k13 : g.Keep r1 H1 (r1 ++ [s2.heap.objs.size]) (upd H1 s2.heap.objs.size (.ext (NDict g.cls.w s2.heap.objs.size []))) := (S1.laid hn3 (o := .ext (NDict g.cls.w s2.heap.objs.size [])) (c := .dcn []) ⟨[], upd_same, by simp [NvRep]⟩).1
    have S3 : g.Sto (r1 ++ [s2.heap.objs.size]) (st1 ++ [.dcn []]) (upd H1 s2.heap.objs.size (.ext (NDict g.cls.w s2.heap.objs.size []))) := (S1.laid hn3 (o := .ext (NDict g.cls.w s2.heap.objs.size [])) (c := .dcn []) ⟨[], upd_same, by simp [NvRep]⟩).2
    have acc_at : (r1 ++ [s2.heap.objs.size])[st1.length]? = some s2.heap.objs.size := by rw [← S1.len]; simp
    generalize hH3 : upd H1 s2.heap.objs.size (.ext (NDict g.cls.w s2.heap.objs.size [])) = H3 at *
    generalize hac : s2.heap.objs.size = ac at *
    generalize hr3 : r1 ++ [ac] = r3 at *
    refine wpAny_newFunctionEnv hcell (by intro y hy; simp at hy) (fun h₁ hns₁ hsb₁ => ?_) hkind
    have hk1 : ∀ b o, s3.heap.get? b = some o → h₁.get? b = some o := fun b o e => hsb₁.extBut b o (Nat.ne_of_lt (Heap.lt_size e)) (Heap.get?_push_of_some _ e)
    have J0 := compG_in (N := N) (nl := nl) (fv := fv) (tk := s3.toks + ([] : List (Str × Value)).length) hkind C hN hfv I3 hfp hns₁ hk1
    have n0 := env_in (n.mono (k1.trans k13)) nl fv
    generalize hsg0 : (List.replicate nl none ++ fv.map fun k => (sg[k]?).join : L2.St) = sg0 at J0 n0
    have tn0 : tn 0 h₁ := T.keep _ _ _ st2 fun b _ o e => hk1 b o (up3 b o e)
    have bfp : ∀ {H' : Hp}, (∀ b ∈ fp, H' b = none) → ∀ b ∈ fp, FpOk (cxG X N scope cl s3.heap.objs.size s3 H3 fp (X.pn ++ pins)) [] H' b := fun hn b hb => by
      obtain ⟨f, hlt⟩ := hfp b hb
      refine ⟨hn b hb, fun z => ?_, fp_stkG I3 f, .inl hb, fun y c h => f.2.2.2.2.1 y c (C.sub y c h), fun p hp => f.2.2.2.2.2 p (by rw [List.append_nil] at hp; exact hp)⟩
      have : s3.heap.objs.size < s3.heap.objs.size := by rw [z] at hlt; exact hlt
      exact Nat.lt_irrefl _ this
    have loop : codeAny (model X.prog X.w) X.A (.compLoop (.DictComp kx vx [⟨target, iter, ifs, 0⟩] scope pos) 0 (.ref it) (.ref ac) (envG X scope cl s3.heap.objs.size))
        (compPost (model X.prog X.w) X.A X.xe none (EP X pins sg Q) (.ref ac) s3.heap.objs.size)
        { s3 with heap := h₁, toks := s3.toks + ([] : List (Str × Value)).length } := by
      refine dcompLoop_ifs (fun mm s' => ∃ i rho' st' H' sg', L2.Inv (cxG X N scope cl s3.heap.objs.size s3 H3 fp (X.pn ++ pins)) [] sg' H' s' ∧ tn i s'.heap ∧ (∀ b ∈ fp, H' b = none) ∧ g.Keep r3 H3 rho' H' ∧ g.Sto rho' st' H' ∧ g.Env rho' H' (envIn nl fv env) sg' ∧ mm = xs.length - i ∧ i ≤ xs.length ∧
        dcompLoopN xs p st1.length body (xs.drop i) st' = .ok () stf) ?_ xs.length ⟨0, r3, _, H3, sg0, J0, tn0, fun b hb => (hfp b hb).1.1, .refl _ _, S3, n0, by simp, Nat.zero_le _, hloop⟩
      rintro mm s' ⟨i, rho', st', H', sg', I', tn', fr', kk, S', n', rfl, hi, hl'⟩
      have hst : stays st' p xs = true := by
        cases z : stays st' p xs with
        | true => rfl
        | false =>
          exfalso
          cases e : xs.drop i with
          | nil => rw [e] at hl'; simp only [dcompLoopN, z] at hl'; cases hl'
          | cons d t => rw [e] at hl'; simp only [dcompLoopN, z] at hl'; cases hl'
      obtain ⟨jstop, jgo⟩ := hJ rho' st' H' (k13.trans kk) S' hst
      by_cases hlt : i < xs.length
      · obtain ⟨hgo, hy⟩ := jgo i xs[i] (List.getElem?_eq_getElem hlt)
        rw [List.drop_eq_getElem_cons hlt] at hl'
        simp only [dcompLoopN, hst, if_true] at hl'
        refine thn (T.item (cxG X N scope cl s3.heap.objs.size s3 H3 fp (X.pn ++ pins)) rfl rfl rfl hc i [] s' sg' H' _ I' (bfp fr') tn' hgo) fun r s4 ⟨u, hr4, h4⟩ => ?_
        subst hr4
        refine thn h4 fun _ s5 ⟨x5, H5, I5, r5, y5, tn5, fr5⟩ => ?_
        obtain ⟨e5, rx5⟩ := hy x5 H5 y5
        subst e5
        have I5' := I5.pinned (bfp fr5) (T.obj _ _ tn5)
        obtain ⟨env', es⟩ : ∃ env', store tgs one xs[i] (envIn nl fv env) = some env' := by
          cases es : store tgs one xs[i] (envIn nl fv env) with
          | some env' => exact ⟨env', rfl⟩
          | none =>
            exfalso
            have : body xs[i] st' = .bad := by rw [← hB]; unfold dBody; rw [es]
            rw [this] at hl'; cases hl'
        have hbody : body xs[i] st' = (evalIfs g.tab g.call ifs' env' st').bind fun b st => if b then (evalE g.tab g.call kx' env' st).bind fun k st => (evalE g.tab g.call vx' env' st).bind fun y st => .ok (some (k, y)) st else .ok none st := by
          rw [← hB]; unfold dBody; rw [es]
        rw [hbody] at hl'
        obtain ⟨hel, hhi⟩ := store_high es htg
        refine wpAny_mono (hg s3.heap.objs.size s3 H3 fp (X.pn ++ pins) _ s5 sg' H5 x5 u (fun sg6 H6 => H6 = H5 ∧ g.Env rho' H6 env' sg6) I5' r5 (tg_store (g := g) es rx5 n' fun sg6 n6 => ⟨rfl, n6⟩)) (fun _ s6 h6 => ?_) (fun _ _ z => z.elim)
        obtain ⟨sg6, H6, I6, e6, n6⟩ := h6
        subst e6
        obtain ⟨b, st2, eb, hl'⟩ : ∃ b st2, evalIfs g.tab g.call ifs' env' st' = .ok b st2 ∧ (match (if b then (evalE g.tab g.call kx' env' st2).bind fun k st => (evalE g.tab g.call vx' env' st).bind fun y st => .ok (some (k, y)) st else .ok none st2 : Res (Option (D × D))) with
            | .ok (some (k, y)) st' => (match st'[st1.length]? with
              | some (.dcn kvs) => if kvs.length < sizeLine ∧ keyN k = true then dcompLoopN xs p st1.length body (xs.drop (i + 1)) (st'.set st1.length (.dcn (dPut kvs k y))) else .bad
              | _ => .bad)
            | .ok none st' => dcompLoopN xs p st1.length body (xs.drop (i + 1)) st'
            | _ => .bad) = Res.ok () stf := by
          cases eb : evalIfs g.tab g.call ifs' env' st' with
          | ok b st2 => rw [eb] at hl'; exact ⟨b, st2, rfl, hl'⟩
          | exc c st2 => rw [eb] at hl'; cases hl'
          | bad => rw [eb] at hl'; cases hl'
        refine wpAny_mono (ht s3.heap.objs.size s3 H3 fp (X.pn ++ pins) _ s6 sg6 H6 (fun b' H7 => b' = b ∧ ∃ rho7, g.Keep rho' H6 rho7 H7 ∧ g.Sto rho7 st2 H7) I6 ⟨rho', st', env', S', n6, ?_⟩) (fun ok s7 h7 => ?_) (fun _ _ z => z.elim)
        · show RQ (g.with fun _ _ _ => False) (evalIfs g.tab g.call ifs' env' st') _ rho' H6
          rw [eb]
          exact fun H7 rho7 k7 s7 => ⟨rfl, rho7, k7, s7⟩
        obtain ⟨H7, I7, e7, rho7, k7, S7⟩ := h7
        subst e7
        have n7 : g.Env rho7 H7 env' sg6 := n6.mono k7
        have done : ∀ (rho9 : List Addr) (st9 : Sto) (H9 : Hp) (s9 : Shared), L2.Inv (cxG X N scope cl s3.heap.objs.size s3 H3 fp (X.pn ++ pins)) ([] ++ pinsAt fp s5.heap) sg6 H9 s9 → g.Keep rho7 H7 rho9 H9 → g.Sto rho9 st9 H9 → dcompLoopN xs p st1.length body (xs.drop (i + 1)) st9 = .ok () stf →
            ∃ m, m < xs.length - i ∧ ∃ i rho' st' H' sg', L2.Inv (cxG X N scope cl s3.heap.objs.size s3 H3 fp (X.pn ++ pins)) [] sg' H' s9 ∧ tn i s9.heap ∧ (∀ b ∈ fp, H' b = none) ∧ g.Keep r3 H3 rho' H' ∧ g.Sto rho' st' H' ∧ g.Env rho' H' (envIn nl fv env) sg' ∧ m = xs.length - i ∧ i ≤ xs.length ∧ dcompLoopN xs p st1.length body (xs.drop i) st' = .ok () stf := by
          intro rho9 st9 H9 s9 I9 k9 S9 hl9
          refine ⟨xs.length - (i + 1), by omega, i + 1, rho9, st9, H9, sg6, I9.unpinned, T.keep _ _ _ tn5 fun b hb o e => (I9.pin (b, o) (List.mem_append_right _ (List.mem_append_right _ (mem_pinsAt hb e)))).1, fun b hb => ?_, (kk.trans k7).trans k9, S9, env_back rfl hel hhi (n7.mono k9), rfl, hlt, hl9⟩
          obtain ⟨o, e, d⟩ := T.obj _ _ tn5 b hb
          exact (I9.pin (b, o) (List.mem_append_right _ (List.mem_append_right _ (mem_pinsAt hb e)))).2.1
        cases ok with
        | false =>
          rw [if_neg Bool.false_ne_true]
          simp only [Bool.false_eq_true, if_false] at hl'
          exact done rho7 st2 H7 s7 I7 (.refl _ _) S7 hl'
        | true =>
          rw [if_pos rfl]
          simp only [if_true] at hl'
          obtain ⟨kd, st3, ek, hl'⟩ : ∃ kd st3, evalE g.tab g.call kx' env' st2 = .ok kd st3 ∧ (match ((evalE g.tab g.call vx' env' st3).bind fun y st => .ok (some (kd, y)) st : Res (Option (D × D))) with
            | .ok (some (k, y)) st' => (match st'[st1.length]? with
              | some (.dcn kvs) => if kvs.length < sizeLine ∧ keyN k = true then dcompLoopN xs p st1.length body (xs.drop (i + 1)) (st'.set st1.length (.dcn (dPut kvs k y))) else .bad
              | _ => .bad)
            | .ok none st' => dcompLoopN xs p st1.length body (xs.drop (i + 1)) st'
            | _ => .bad) = Res.ok () stf := by
            cases ek : evalE g.tab g.call kx' env' st2 with
            | ok kd st3 => rw [ek] at hl'; exact ⟨kd, st3, rfl, hl'⟩
            | exc c st4 => rw [ek] at hl'; cases hl'
            | bad => rw [ek] at hl'; cases hl'
          obtain ⟨y, st4, ee, hl'⟩ : ∃ y st4, evalE g.tab g.call vx' env' st3 = .ok y st4 ∧ (match st4[st1.length]? with
              | some (.dcn kvs) => if kvs.length < sizeLine ∧ keyN kd = true then dcompLoopN xs p st1.length body (xs.drop (i + 1)) (st4.set st1.length (.dcn (dPut kvs kd y))) else .bad
              | _ => .bad) = Res.ok () stf := by
            cases ee : evalE g.tab g.call vx' env' st3 with
            | ok y st4 => rw [ee] at hl'; exact ⟨y, st4, rfl, hl'⟩
            | exc c st4 => rw [ee] at hl'; cases hl'
            | bad => rw [ee] at hl'; cases hl'
          obtain ⟨kvs, ey, ⟨hys, hkd⟩, hl'⟩ : ∃ kvs, st4[st1.length]? = some (.dcn kvs) ∧ (kvs.length < sizeLine ∧ keyN kd = true) ∧ dcompLoopN xs p st1.length body (xs.drop (i + 1)) (st4.set st1.length (.dcn (dPut kvs kd y))) = .ok () stf := by
            split at hl'
            · rename_i kvs ey
              split at hl'
              · rename_i hys; exact ⟨kvs, ey, hys, hl'⟩
              · cases hl'
            · cases hl'
          refine wpAny_mono (hkx s3.heap.objs.size s3 H3 fp (X.pn ++ pins) _ s7 sg6 H7 (fun w H8 => ∃ rho8, g.Keep rho7 H7 rho8 H8 ∧ g.Sto rho8 st3 H8 ∧ g.Rep rho8 H8 kd w) I7 ⟨rho7, st2, env', S7, n7, ?_⟩) (fun kv s8 h8 => ?_) (fun _ _ z => z.elim)
          · show RQ (g.with fun _ _ _ => False) (evalE g.tab g.call kx' env' st2) _ rho7 H7
            rw [ek]
            exact fun w H8 rho8 k8 s8 r8 => ⟨rho8, k8, s8, r8⟩
          obtain ⟨wk, H8, I8, rw8, rho8, k8, S8, rp8⟩ := h8
          refine wpAny_mono (hvx s3.heap.objs.size s3 H3 fp (X.pn ++ pins) _ s8 sg6 H8 (fun w H9 => ∃ rho9, g.Keep rho8 H8 rho9 H9 ∧ g.Sto rho9 st4 H9 ∧ g.Rep rho9 H9 y w) I8 ⟨rho8, st3, env', S8, n7.mono k8, ?_⟩) (fun yv s9 h9 => ?_) (fun _ _ z => z.elim)
          · show RQ (g.with fun _ _ _ => False) (evalE g.tab g.call vx' env' st3) _ rho8 H8
            rw [ee]
            exact fun w H9 rho9 k9 s9 r9 => ⟨rho9, k9, s9, r9⟩
          obtain ⟨w, H9, I9, rw9, rho9, k9, S9, rp9⟩ := h9
          have rpk := rp8.mono k9
          have edc : dcnOf st4 st1.length = some kvs := by unfold dcnOf; rw [ey]
          obtain ⟨a9, ws, hr9, _, hH9, nv9⟩ := sto_dcn S9 edc
          rw [k9.at (k8.at (k7.at (kk.at acc_at)))] at hr9; cases hr9
          refine nd_dset (X := cxG X N scope cl s3.heap.objs.size s3 H3 fp (X.pn ++ pins)) hK hw hu I9 hH9 nv9 rpk hkd rw8 rw9 hys fun q9 s10 ez I10 => ?_
          subst ez
          obtain ⟨k10, S10⟩ := S9.wroteC (o := .ext (NDict g.cls.w ac (nPut ws kd q9 w))) (c1 := .dcn (dPut kvs kd y)) (k9.at (k8.at (k7.at (kk.at acc_at)))) ey rfl hH9 ⟨fun _ => nofun, fun _ _ => nofun⟩ fun H4 eH k5 => ⟨_, eH, (nv_put hkd rpk rp9 nv9).mono k5⟩
          exact done rho9 _ _ s10 I10 ((k8.trans k9).trans k10) S10 hl'
      · have ei : i = xs.length := by omega
        subst ei
        refine thn (T.done (cxG X N scope cl s3.heap.objs.size s3 H3 fp (X.pn ++ pins)) rfl rfl rfl hc xs.length [] s' sg' H' _ I' (bfp fr') tn' jstop) fun r s4 ⟨hr4, I4⟩ => ?_
        subst hr4
        rw [List.drop_eq_nil_of_le (Nat.le_refl _)] at hl'
        simp only [dcompLoopN, hst, if_true] at hl'
        cases hl'
        obtain ⟨m4, hn4, _⟩ := I4.loc
        refine ⟨m4, hn4, fun h' sb => ?_⟩
        refine ⟨.ref ac, H', ?_, rfl, q1 (.ref ac) H' rho' ((k1.trans k13).trans kk) S' (rep_loc.mpr ⟨ac, kk.at acc_at, rfl⟩)⟩
        have u4 : Un (frs X.stack) fp H3 H' s3.heap s4.heap := I4.base
        have hL : ∀ b o, s3.heap.get? b = some o → b ≠ s3.heap.objs.size := fun b o e => Nat.ne_of_lt (Heap.lt_size e)
        have fL : H' s3.heap.objs.size = none := I4.free
        refine I3.call' (s' := { s4 with heap := h' }) (ch := fp) I4.os ⟨fun b o e n hb hx => (sb.2 b (hL b o e)).trans (u4.keep b o e n hb hx), fun b o e n hb hx => ?_, u4.free, fun b o e hx => ?_, u4.tups, u4.frzs, u4.tbls⟩ (fun b o e => ?_) I4.bare fun b hb => ?_
        · obtain ⟨sl, e1⟩ := u4.slot b o e n hb hx
          exact ⟨sl, (sb.2 b (hL b o e)).trans e1⟩
        · obtain ⟨o', e1⟩ := u4.there b o e hx
          exact ⟨o', (sb.2 b (hL b o e)).trans e1⟩
        · refine (I4.hok b o e).stay (fun c u hc' g' => (sb.2 c ?_).trans g') (fun _ h => h) fun _ _ h => h
          intro z
          rcases hc' with rfl | hc'
          · rw [z, fL] at e; cases e
          · rw [z, fL] at hc'; cases hc'
        · obtain ⟨f, _⟩ := hfp b hb
          exact ⟨f.2.2.2.1, f.2.1, f.2.2.2.2.1, f.2.2.2.2.2⟩
    exact codeAny_compStart_dict loop (T.self _ 0 _ _ _ tn0 loop)
  · refine hwi rho st env sg H _ S n ?_
    revert q
    cases evalE g.tab g.call it' env st with
    | bad => exact fun q => q
    | exc c st1 => exact fun q => q
    | ok d st1 =>
      simp only [bind_ok]
      intro q
      cases ei : itOf k st1 d with
      | none => rw [ei] at q; exact q.elim
      | some xp =>
        obtain ⟨xs, p⟩ := xp
        rw [ei] at q
        exact ⟨xs, p, ei, fun H1 r1 J k1 s1 hJ => ⟨r1, st1, xs, p, k1, s1, hJ, RQ.mono k1 q fun _ _ z => z⟩⟩
end DD
namespace DD
open PySem PySem.Spec L2
open PyProof.Rows hiding St RelV
variable {g : G} {X : Cx} {pos apos cpos : Pos} {F : Nat}
noncomputable def Itk (a : Addr) (o : Obj) (ws : List (Key × V)) : It := ⟨fun i H => H a = some (.frz o (.dK ws)) ∧ i < ws.length, fun i H x H' => H' = H ∧ ∃ k v, ws[i]? = some (k, v) ∧ x = kV k, fun i H => H a = some (.frz o (.dK ws)) ∧ ws.length ≤ i⟩
theorem kv_len' {ws : List (Key × V)} {vs : List (Key × Value)} (h : KV ws vs) : ws.length = vs.length := Paired.length h
theorem kv_get : ∀ {ws : List (Key × V)} {vs : List (Key × Value)} {i : Nat} {k : Key} {v : V}, KV ws vs → ws[i]? = some (k, v) → ∃ u, vs[i]? = some (k, u)
 | _, _, i, k, v, .nil, e => by simp at e
 | _, _, 0, k, v, .cons (b := b) h t, e => by
  simp at e; subst e
  exact ⟨b.2, by simp; exact Prod.ext h.1.symm rfl⟩
 | _, _, i + 1, k, v, .cons h t, e => by
  obtain ⟨u, hu⟩ := kv_get (i := i) t (by simpa using e)
  exact ⟨u, by simpa using hu⟩
theorem rel_key {k : Key} {u : Value} (h : keyIs k u = true) : RelV (kV k) u := by
 rcases keyIs_shape h with ⟨i, t, rfl, rfl⟩ | ⟨x, t, rfl, rfl⟩ <;> exact ⟨t, rfl⟩
theorem frz_dict {P : Program} {w : World} {H : Hp} {h : Heap} {a : Addr} {o : Obj} {ws : List (Key × V)} {es : Array DictEntry} {ep : Nat} (hok : HOk P w H h) (e : H a = some (.frz o (.dK ws))) (hd : o.data = .dict es ep) : ∃ vs, KV ws vs ∧ h.DictAt (mixKind P w) a vs ep := by
 obtain ⟨h1, _, _, vs, rel, o', es', ep', h2, r1, r2, r3⟩ := (show ObjOk P w H h a (.frz o (.dK ws)) from hok a _ e)
 rw [h1] at h2; cases h2
 rw [hd] at r2; cases r2
 exact ⟨vs, rel, o, es, h1, r1, hd, r3⟩
theorem turn_keys {P : Program} {w : World} {K : PySem.W.Frag} {tg : Expr} {ws : List (Key × V)} {o : Obj} {es : Array DictEntry} {ep : Nat} (hd : o.data = .dict es ep) (a it : Addr) : Turn P w K tg (Itk a o ws) [it] it (fun i h => i ≤ ws.length ∧ h.IsKeyIter it a i ws.length ep) where
 mem := by simp
 obj := fun i h st b hb => by
  have e : b = it := by simpa using hb
  subst e
  obtain ⟨_, u, e, c, d⟩ := st
  exact ⟨u, e, fun v z => by rw [d] at z; cases z⟩
 keep := fun i h h' st k => ⟨st.1, st.2.at fun u e => k it (by simp) u e⟩
 item := by
  intro X hP hw hK hc i pins s sg H E I hf st hg
  subst hP hw hK
  obtain ⟨hH, hi⟩ := hg
  obtain ⟨vs, rel, da⟩ := frz_dict I.hok hH hd
  have hl := kv_len' rel
  obtain ⟨⟨k, v⟩, hx⟩ : ∃ p, ws[i]? = some p := ⟨ws[i], List.getElem?_eq_getElem hi⟩
  obtain ⟨u, hu⟩ := kv_get rel hx
  obtain ⟨f0, f1, f2, f3, f4, f5⟩ := hf it (by simp)
  have hit := st.2
  rw [hl] at hit
  refine wpAny_pyNext_dict_item hit da hu fun key h' hkey hit' sb => ?_
  rw [← hl] at hit'
  have I1 : Inv X pins sg H { s with heap := h' } := I.turned (t' := s.toks) (fun b o hb e => (sb.2 b hb).trans e) f0 f1 f3 f4 f5
  obtain ⟨ob, e, c, d⟩ := id hit'
  exact ⟨key, rfl, go_of (s := { s with heap := h' }) e c d (by decide) ⟨kV k, H, I1, rel_key hkey, ⟨rfl, k, v, hx, rfl⟩, ⟨hi, hit'⟩, fun b hb => (hf b hb).1⟩⟩
 done := by
  intro X hP hw hK hc i pins s sg H E I hf st hg
  subst hP hw hK
  obtain ⟨hH, hi⟩ := hg
  obtain ⟨vs, rel, da⟩ := frz_dict I.hok hH hd
  have hl := kv_len' rel
  obtain ⟨f0, f1, f2, f3, f4, f5⟩ := hf it (by simp)
  have hit := st.2
  rw [hl] at hit
  exact wpAny_pyNext_dict_end (I.ok.hd hc) hit da (by simp; omega) fun h' eb => ⟨rfl, I.turned (t' := s.toks) (fun b o hb e => eb b o hb e) f0 f1 f3 f4 f5⟩
 self := fun _ _ _ _ _ st h => wpAny_pyIter_keyiter st.2 h
noncomputable def iKeys (tl : TE) : TI := fun sg H R => tl sg H fun x H1 => ∃ a ws, x = .ref a ∧ H1 a = some (.dK ws) ∧ ∀ o, R (Itk a o ws) (upd H1 a (.frz o (.dK ws)))
theorem pi_keys {tg l : Expr} {tl : TE} (hl : PE X l tl) : PI X tg l (iKeys tl) := by
 intro pins s sg H R I h
 refine thn (hl pins s sg H _ I h) fun v s1 ⟨x, H1, I1, r1, q1⟩ => ?_
 obtain ⟨a, ws, rfl, hH, q⟩ := q1
 cases r1
 obtain ⟨hz, hm, vs, rel, o, es, ep, ho, r1, hd, r3⟩ := (show ObjOk X.prog X.w H1 s1.heap a (.dK ws) from I1.hok a _ hH)
 have hlv := kv_len' rel
 have I2 : Inv X pins sg (upd H1 a (.frz o (.dK ws))) s1 := I1.write (x := a) (e := a) (o := .frz o (.dK ws)) (h' := s1.heap) (t' := s1.toks) (by rw [hH]; exact True.intro) (.inl rfl) (fun _ _ _ e => e) ⟨o, ho⟩ ⟨ho, hz, hm, vs, rel, o, es, ep, ho, r1, hd, r3⟩
 refine wpAny_pyIter_dict (knd := mixKind X.prog X.w) (kvs := vs) (ep := ep) hm ⟨o, es, ho, r1, hd, r3⟩ ?_
 refine ⟨s1.heap.objs.size, [s1.heap.objs.size], _, _, _, rfl, I2.kept (t' := s1.toks) fun b o e => Heap.get?_push_of_some _ e, turn_keys (ws := ws) hd a _, ⟨Nat.zero_le _, _, Heap.get?_push_size _ rfl, rfl, by rw [hlv]; rfl⟩, fun b hb => ?_, q o⟩
 have e : b = s1.heap.objs.size := by simpa using hb
 subst e
 exact I2.fpOk (Nat.le_refl _) (I2.hok.fresh (Nat.le_refl _))
theorem kvr_get {rho : List Addr} {H : Hp} : ∀ {kvs : List (D × D)} {ws : List (Key × V)} {i : Nat} {d y : D}, KvRep g.K rho H kvs ws → kvs[i]? = some (d, y) → ∃ k v, ws[i]? = some (k, v) ∧ kD d = some k
 | [], ws, i, d, y, _, e => by simp at e
 | (x, z) :: r, ws, 0, d, y, h, e => by
  simp only [KvRep] at h
  obtain ⟨k, v, t, rfl, hk, _, _⟩ := h
  simp at e
  obtain ⟨rfl, rfl⟩ := e
  exact ⟨k, v, rfl, hk⟩
 | (x, z) :: r, ws, i + 1, d, y, h, e => by
  simp only [KvRep] at h
  obtain ⟨k, v, t, rfl, hk, _, hr⟩ := h
  obtain ⟨k2, v2, h1, h2⟩ := kvr_get hr (by simpa using e)
  exact ⟨k2, v2, by simpa using h1, h2⟩
theorem rep_key {rho : List Addr} {H : Hp} {d : D} {k : Key} (h : kD d = some k) : g.Rep rho H d (kV k) := by
 cases d with
 | int i => simp only [kD] at h; cases h; exact rep_int.mpr rfl
 | str x => simp only [kD] at h; cases h; exact rep_str.mpr rfl
 | _ => cases h
theorem si_keys {target iter : Expr} {it' : E} (h : Sd g X iter it') : SdI g X target iter 4 (.mt .frzD it' .nil) := by
 refine ⟨_, pi_keys h, fun rho st env sg H R s n q => ?_⟩
 simp only [evalE] at q
 refine step s n q fun d st1 v H1 r1 k1 s1 n1 rp q1 => ?_
 split at q1
 · simp only [evalEs, bind_ok] at q1
   cases d with
   | loc m =>
    simp only [mtD] at q1
    cases ed : dctOf st1 m with
    | none => rw [ed] at q1; exact q1.elim
    | some kvs =>
     rw [ed] at q1
     obtain ⟨xs, p, e, q1⟩ := q1
     obtain ⟨a, ws, hr, hc, hH, kv⟩ := sto_dct s1 ed
     obtain ⟨a2, hr2, rfl⟩ := rep_loc.mp rp
     rw [hr] at hr2; cases hr2
     have hlm := (List.getElem?_eq_some_iff.mp hc).1
     have ec : (st1.set m (.dcf kvs))[m]? = some (.dcf kvs) := by simp [hlm]
     simp only [itOf, ec] at e
     cases e
     refine ⟨a, ws, rfl, hH, fun o => ?_⟩
     obtain ⟨k3, s3⟩ := s1.wroteC (o := .frz o (.dK ws)) (c1 := .dcf kvs) hr hc rfl hH ⟨fun _ => nofun, fun _ _ => nofun⟩ fun H3 eH kk => ⟨ws, o, eH, kv.mono kk⟩
     have hlw := kv_len kv
     refine q1 _ r1 (Itk a o ws) (k1.trans k3) s3 fun rho st H kk s hst => ?_
     have hf := kk.fz a o ws upd_same
     refine ⟨⟨hf, by simp; omega⟩, fun i d hd => ?_⟩
     rw [List.getElem?_map] at hd
     cases hx : kvs[i]? with
     | none => rw [hx] at hd; cases hd
     | some p =>
      rw [hx] at hd; cases hd
      obtain ⟨k, w, h1, h2⟩ := kvr_get (y := p.2) kv hx
      refine ⟨⟨hf, (List.getElem?_eq_some_iff.mp h1).1⟩, fun x H' y => ⟨y.1, ?_⟩⟩
      obtain ⟨_, k', v', h3, rfl⟩ := y
      rw [h1] at h3; cases h3
      exact rep_key h2
   | _ => exact q1.elim
 · exact q1.elim
theorem nd_clear (hK : X.K = g.K) (hw : g.cls.w = X.w) {pins : List (Addr × Obj)} {sg : L2.St} {H : Hp} {s : Shared} {rho : List Addr} {p : Addr} {kvs : List (D × D)} {xs : List (D × Addr × V)} {A : Around} {Q : Value → Shared → Prop} {E : Value → Shared → Prop} (I : Inv X pins sg H s) (hH : H p = some (.ext (NDict g.cls.w p xs))) (nv : NvRep g.K rho H kvs xs)
    (h : ∀ s', Inv X pins sg (upd H p (.ext (NDict g.cls.w p []))) s' → Q .none s') : wpAny (model X.prog X.w) A (call (.builtin "dict.clear") [.ref p]) Q E s := by
  obtain ⟨hm, hz, ys, pr, dd⟩ := nd_of hK hw I hH nv
  obtain ⟨o, es, ep, ho, hc, hdat, he, _, _⟩ := id dd
  have hes : es.size ≤ sizeLine := by
    have h1 : es.toList.length = ys.length := by rw [he, List.length_map]
    have h2 : xs.length = ys.length := Paired.length pr
    simp at h1; omega
  have hT : s.TypeIs (.ref p) "dict" := ⟨o, ho, hc.1⟩
  refine wpAny_call_entry PySem.F.slot_dict_clear hT PySem.F.entry_dict_clear ?_ (PySem.F.args_dict_clear_1 _)
  unfold Builtin.«dict.clear»
  refine wpAny_bind ?_
  unfold Builtin.Dict.noArgs
  refine wpAny_bind (wpAny_notOrdered_dict hT (wpAny_pure (wpAny_bind (wpAny_dictEntries ho hdat (wpAny_bind ?_)))))
  unfold bearsInstanceDictMark
  have g1 := Heap.get?_update_self (h := s.heap) (a := p) (f := Obj.mapDictKeys fun _ => #[]) ho (Obj.isFreed_of_dict (Obj.data_mapDictKeys hdat _))
  have new : NDict g.cls.w p [] (s.heap.update p (Obj.mapDictKeys fun _ => #[])) := ⟨hm, Nat.zero_le _, List.nodup_nil, _, _, ep + 1, g1, hc.mapDictKeys _, Obj.data_mapDictKeys hdat _, .nil⟩
  have I1 : Inv X pins sg (upd H p (.ext (NDict g.cls.w p []))) { s with heap := s.heap.update p (Obj.mapDictKeys fun _ => #[]) } := d_write (t' := s.toks) I (by rw [hH]; exact True.intro) (Heap.SameBut.update ..) ⟨_, g1⟩ ⟨new, ⟨_, g1⟩, nd_local⟩
  refine wpAny_bind (wpAny_load ho (wpAny_pure (wpAny_bind (wpAny_updateDictKeys (hz := hes) ho hdat ?_))))
  split
  · exact wpAny_bind (wpAny_letGo (wpAny_pure ⟨.none, rfl, h _ I1⟩))
  · exact wpAny_pure ⟨.none, rfl, h _ I1⟩
end DD
namespace DD
open PySem PySem.Spec L2
open PyProof.Rows hiding St RelV
section
variable {prog : Program} {w : World} {K : Type} [DecidableEq K] {knd : HeapKind prog w K} {A : Around} {E : Value → Shared → Prop} {s : Shared}
inductive HitsH (A : Around) (s : Shared) (xb : List (K × Addr × Value)) : List (K × Addr × Value) → Bool → Prop
 | nil : HitsH A s xb [] true
 | miss {k : K} {q : Addr × Value} {r : List (K × Addr × Value)} : (∀ (j : Nat) (p : Addr × Value), xb[j]? ≠ some (k, p)) → HitsH A s xb ((k, q) :: r) false
 | hit {k : K} {q p : Addr × Value} {r : List (K × Addr × Value)} {j : Nat} {e b : Bool} : xb[j]? = some (k, p) → SeqAt.EqAt A s q.2 p.2 e → HitsH A s xb r b → HitsH A s xb ((k, q) :: r) (e && b)
theorem nodup_at {xb : List (K × Addr × Value)} (hn : (xb.map (·.1)).Nodup) {i j : Nat} {k : K} {p q : Addr × Value} (h1 : xb[i]? = some (k, p)) (h2 : xb[j]? = some (k, q)) : p = q := by
 have g1 : (xb.map (·.1))[i]? = some k := by simp [h1]
 have g2 : (xb.map (·.1))[j]? = some k := by simp [h2]
 have : i = j := (List.getElem?_inj (List.getElem?_eq_some_iff.mp g1).1 hn).mp (g1.trans g2.symm)
 subst this
 rw [h1] at h2; cases h2; rfl
theorem pairsH {nm : String} {a b : Addr} {xa xb : List (K × Addr × Value)} {r : Bool} {Q : Bool → Shared → Prop} (hu : knd.room A) (ha : (a == sysModules) = false) (hb : (b == sysModules) = false) (da : s.heap.DictOfH knd a xa) (db : s.heap.DictOfH knd b xb)
    (hits : xa.length = xb.length → HitsH A s xb xa r) (h : Q (xa.length == xb.length && r) s) : wpAny (model prog w) A (Builtin.Dict.samePairs nm a b) Q E s := by
  obtain ⟨oa, es, ep, g1, _, g3, g4, g5, _⟩ := da
  obtain ⟨ob, fs, eq, k1, _, k3, k4, k5, k6⟩ := db
  have la : es.size = xa.length := size_of_entries g4
  have lb : fs.size = xb.length := size_of_entries k4
  unfold Builtin.Dict.samePairs Builtin.Dict.showsAll
  rw [if_neg (by rw [ha]; exact Bool.false_ne_true), if_neg (by rw [hb]; exact Bool.false_ne_true)]
  refine wpAny_bind (wpAny_pure (wpAny_bind (wpAny_pure (wpAny_bind (wpAny_dictEntries g1 g3 ?_)))))
  dsimp only
  refine wpAny_bind (wpAny_dictEntries k1 k3 ?_)
  by_cases hz : es.size = fs.size
  · have hl : xa.length = xb.length := by omega
    have h : Q r s := by simpa [hl] using h
    have hits := hits hl
    rw [if_neg (by rw [hz]; simp)]
    refine wpAny_bind (wpAny_dictEpoch g1 g3 (wpAny_bind ?_))
    rw [Std.Legacy.Range.forIn_eq_forIn_range']
    simp only [Std.Legacy.Range.size, Nat.sub_zero, Nat.add_sub_cancel, Nat.div_one]
    refine wpAny_forIn_list _ (fun rest q t => t = s ∧ q = (none, ()) ∧ ∃ i, rest = List.range' i (es.size - i) ∧ i ≤ es.size ∧ HitsH A s xb (xa.drop i) r) _ ?_ ?_ _ _ ⟨rfl, rfl, 0, by simp, Nat.zero_le _, hits⟩
    · rintro x rest q t ⟨rfl, rfl, i, hr, hi, hp⟩
      have hlt : i < es.size := Nat.lt_of_not_le fun z => by rw [Nat.sub_eq_zero_of_le z] at hr; simp at hr
      rw [show es.size - i = (es.size - (i + 1)) + 1 by omega, List.range'_succ] at hr
      obtain ⟨rfl, hr⟩ := List.cons.inj hr
      have hx : x < xa.length := by omega
      have ee : es[x]? = some (entryOfKey knd xa[x]) := by rw [entry_at g4 x, List.getElem?_eq_getElem hx]; rfl
      have hd : xa.drop x = (xa[x].1, xa[x].2) :: xa.drop (x + 1) := List.drop_eq_getElem_cons hx
      have hk := g5 xa[x] (List.getElem_mem hx)
      rw [hd] at hp
      refine wpAny_bind (wpAny_dictEntries g1 g3 ?_)
      rw [ee]
      show wpAny _ _ (holding [.ref xa[x].2.1, xa[x].2.2] _ >>= _) _ _ _
      refine wpAny_bind (wpAny_holding (wpAny_bind (wpAny_dictFind_heap hu hk k1 k3 k4 k5 k6 (fun hn => ?_) fun j p hj => ?_)))
      · cases hp with
        | miss z =>
          refine wpAny_pure ?_
          show wpAny _ _ (if (!false) = true then _ else _) _ _ _
          rw [if_pos (by decide : (!false) = true)]
          exact wpAny_pure (wpAny_pure h)
        | hit z1 z2 z3 => exact absurd z1 (hn _ _)
      · cases hp with
        | miss z => exact absurd hj (z _ _)
        | @hit _ _ p2 _ j2 e b' z1 z2 z3 =>
          have ep2 := nodup_at k6 z1 hj
          subst ep2
          have ef : fs[j]? = some (entryOfKey knd (xa[x].1, p2)) := by rw [entry_at k4 j, hj]; rfl
          refine wpAny_bind (wpAny_dictEntries k1 k3 ?_)
          rw [ef]
          refine wpAny_holding (z2 prog w _ _ ?_)
          cases e with
          | false =>
            show wpAny _ _ (if (!false) = true then _ else _) _ _ _
            rw [if_pos (by decide : (!false) = true)]
            exact wpAny_pure (wpAny_pure h)
          | true =>
            show wpAny _ _ (if (!true) = true then _ else _) _ _ _
            rw [if_neg (by decide)]
            refine wpAny_bind (wpAny_dictEpoch g1 g3 ?_)
            rw [if_neg (by simp)]
            exact wpAny_pure ⟨rfl, rfl, x + 1, hr, hlt, by simpa using z3⟩
    · rintro q t ⟨rfl, rfl, i, hr, hi, hp⟩
      have : i = es.size := by
        rcases Nat.lt_or_ge i es.size with z | z
        · rw [show es.size - i = (es.size - (i + 1)) + 1 by omega, List.range'_succ] at hr; cases hr
        · omega
      subst this
      rw [la, List.drop_length] at hp
      cases hp
      exact wpAny_pure h
  · rw [if_pos (by simpa using hz)]
    have hf : (xa.length == xb.length) = false := by rw [← la, ← lb]; simpa using hz
    rw [hf, Bool.false_and] at h
    exact wpAny_bind (wpAny_rule (wpAny_pure h))
theorem eqH {neg : Bool} {a b : Addr} {xa xb : List (K × Addr × Value)} {r : Bool} {Q : Value → Shared → Prop} (hr : knd.room A.in1) (hu : A.units < cLine) (ha : (a == sysModules) = false) (hb : (b == sysModules) = false) (da : s.heap.DictOfH knd a xa) (db : s.heap.DictOfH knd b xb)
    (hits : xa.length = xb.length → HitsH A.in1 s xb xa r) (h : Q (.bool (xor neg (xa.length == xb.length && r))) s) : wpAny (model prog w) A (compareOp (if neg then .NotEq else .Eq) (.ref a) (.ref b)) Q E s := by
  have ta : s.TypeIs (.ref a) "dict" := let ⟨o, _, _, h1, h2, _⟩ := da; ⟨o, h1, h2.1⟩
  have tb : s.TypeIs (.ref b) "dict" := let ⟨o, _, _, h1, h2, _⟩ := db; ⟨o, h1, h2.1⟩
  cases neg with
  | false =>
    refine wpAny_richCompare_same_room (op := .Eq) ta tb PySem.F.slot_dict_eq (wpAny_call_entry PySem.F.slot_dict_eq ta PySem.F.entry_dict_eq ?_ (PySem.F.args_dict_eq_2 _ _)) hu
    show wpAny _ _ (Builtin.Dict.dictSlotArgs "__eq__" ⟨[.ref a, .ref b], []⟩ >>= _) _ _ s
    refine wpAny_bind ?_; unfold Builtin.Dict.dictSlotArgs
    refine wpAny_bind (wpAny_notOrdered_dict ta ?_); show wpAny _ _ (pure (Value.ref a, Value.ref b)) _ _ s
    refine wpAny_pure (wpAny_bind (wpAny_isInstance (T := "dict") tb PySem.F.sub_dict_dict ?_))
    simp only [Bool.not_true, Bool.false_eq_true, if_false]
    exact wpAny_bind (wpAny_pure (wpAny_bind (wpAny_pure (wpAny_bind (pairsH hr ha hb da db hits (wpAny_pure ⟨_, rfl, (fun x => nomatch x), by simpa using h⟩))))))
  | true =>
    refine wpAny_richCompare_same_room (op := .NotEq) ta tb PySem.F.slot_dict_ne (wpAny_call_entry PySem.F.slot_dict_ne ta PySem.F.entry_dict_ne ?_ (PySem.F.args_dict_ne_2 _ _)) hu
    show wpAny _ _ (Builtin.Dict.dictSlotArgs "__ne__" ⟨[.ref a, .ref b], []⟩ >>= _) _ _ s
    refine wpAny_bind ?_; unfold Builtin.Dict.dictSlotArgs
    refine wpAny_bind (wpAny_notOrdered_dict ta ?_); show wpAny _ _ (pure (Value.ref a, Value.ref b)) _ _ s
    refine wpAny_pure (wpAny_bind (wpAny_isInstance (T := "dict") tb PySem.F.sub_dict_dict ?_))
    simp only [Bool.not_true, Bool.false_eq_true, if_false]
    exact wpAny_bind (wpAny_pure (wpAny_bind (wpAny_pure (wpAny_bind (pairsH hr ha hb da db hits (wpAny_pure ⟨_, rfl, (fun x => nomatch x), by simpa using h⟩))))))
end
end DD
namespace DD
open PySem PySem.Spec L2
open PyProof.Rows hiding St RelV
variable {g : G} {X : Cx} {a b : Expr} {a' b' : E} {pos apos cpos : Pos} {F : Nat}
theorem look_none' {rho : List Addr} {H : Hp} {k : D} : ∀ {kb : List (D × D)} {xb : List (D × Addr × V)} {yb : List (D × Addr × Value)}, NvRep g.K rho H kb xb → Paired RelY xb yb → dLook kb k = none → ∀ (j : Nat) (p : Addr × Value), yb[j]? ≠ some (k, p)
 | [], xb, yb, nv, pr, _, j, p => by
  simp only [NvRep] at nv; subst nv
  cases pr
  simp
 | (k0, d0) :: r, xb, yb, nv, pr, h, j, p => by
  simp only [NvRep] at nv
  obtain ⟨q0, v0, t, rfl, _, _, _, nr⟩ := nv
  cases pr with
  | @cons x y _ yr p1 p2 =>
   have hne : k0 ≠ k := fun z => by simp [dLook, z] at h
   have h2 : dLook r k = none := by
    unfold dLook at h ⊢
    rw [List.find?_cons_of_neg (by simpa using hne)] at h
    exact h
   cases j with
   | zero =>
    intro z
    have z : y = (k, p) := by simpa using z
    exact hne (by have := p1.1; rw [z] at this; exact this)
   | succ j => simpa using look_none' nr p2 h2 j p
theorem look_some' {rho : List Addr} {H : Hp} {k y : D} : ∀ {kb : List (D × D)} {xb : List (D × Addr × V)} {yb : List (D × Addr × Value)}, NvRep g.K rho H kb xb → Paired RelY xb yb → dLook kb k = some y → ∃ (j : Nat) (q : Addr) (v : V) (u : Value), yb[j]? = some (k, q, u) ∧ RelV v u ∧ g.Rep rho H y v
 | [], xb, yb, nv, pr, h => by simp [dLook] at h
 | (k0, d0) :: r, xb, yb, nv, pr, h => by
  simp only [NvRep] at nv
  obtain ⟨q0, v0, t, rfl, _, _, rd, nr⟩ := nv
  cases pr with
  | @cons x y' _ yr p1 p2 =>
   by_cases hk : k0 = k
   · subst hk
     have : y = d0 := by simpa [dLook] using h.symm
     subst this
     exact ⟨0, y'.2.1, v0, y'.2.2, by simp; exact Prod.ext p1.1.symm rfl, p1.2.2, rd⟩
   · have h2 : dLook r k = some y := by
      unfold dLook at h ⊢
      rw [List.find?_cons_of_neg (by simpa using hk)] at h
      exact h
     obtain ⟨j, q, v, u, e1, e2, e3⟩ := look_some' nr p2 h2
     exact ⟨j + 1, q, v, u, by simpa using e1, e2, e3⟩
theorem hits_of (hK : X.K = g.K) (hu : X.A.units + 64 < cLine) {pins : List (Addr × Obj)} {sg : L2.St} {H : Hp} {s : Shared} {rho : List Addr} {st : Sto} (I : Inv X pins sg H s) (S : g.Sto rho st H) {kb : List (D × D)} {xb : List (D × Addr × V)} {yb : List (D × Addr × Value)} (nb : NvRep g.K rho H kb xb) (pb : Paired RelY xb yb) :
    ∀ {ka : List (D × D)} {xa : List (D × Addr × V)} {ya : List (D × Addr × Value)} {r : Bool}, NvRep g.K rho H ka xa → Paired RelY xa ya → hitsN st kb ka = some r → HitsH X.A.in1 s yb ya r
  | [], xa, ya, r, na, pa, h => by
    simp only [NvRep] at na; subst na
    cases pa
    simp only [hitsN] at h; cases h
    exact .nil
  | (k, d) :: t, xa, ya, r, na, pa, h => by
    simp only [NvRep] at na
    obtain ⟨q0, v0, xt, rfl, _, _, rd, nr⟩ := na
    cases pa with
    | @cons x y _ yr p1 p2 =>
      obtain ⟨y1, y2⟩ := y
      have e1 : y1 = k := p1.1.symm
      subst e1
      simp only [hitsN] at h
      cases lk : dLook kb y1 with
      | none =>
        rw [lk] at h; cases h
        exact .miss (look_none' nb pb lk)
      | some z =>
        rw [lk] at h
        obtain ⟨j, q, v, u, f1, f2, f3⟩ := look_some' nb pb lk
        simp only at h
        cases ev : eqV st d z with
        | none => rw [ev] at h; cases h
        | some e =>
          rw [ev, Option.bind_some] at h
          cases hr : hitsN st kb t with
          | none => rw [hr] at h; cases h
          | some b =>
            rw [hr] at h; cases h
            obtain ⟨pd, pz, g1, g2, rfl⟩ := eqV_some ev
            obtain ⟨as, r1⟩ := reads hK I S 40 d v0 y2.2 pd rd p1.2.2 g1
            obtain ⟨bs, r2⟩ := reads hK I S 40 z v u pz f3 f2 g2
            obtain ⟨c1, c2⟩ := py_shape 40 d pd g1
            obtain ⟨c3, c4⟩ := py_shape 40 z pz g2
            refine .hit (p := (q, u)) f1 (SeqAt.eqAt_reads pd pz X.A.in1 s _ _ as bs r1 r2 c1 c3 ?_) (hits_of hK hu I S nb pb nr p2 hr)
            show X.A.units + 1 + min pd.depth pz.depth < cLine
            omega
noncomputable def rEqN (g : G) (neg : Bool) : R2 := fun x y H Q => ∃ rho st d e b, g.Sto rho st H ∧ g.Rep rho H d x ∧ g.Rep rho H e y ∧ eqN st d e = some b ∧ Q (.bl (xor neg b)) H
theorem op_eqN (neg : Bool) (hK : X.K = g.K) (hw : g.cls.w = X.w) (hu : X.A.units + 64 < cLine) : OpR X (compareOp (if neg then .NotEq else .Eq)) (rEqN g neg) := by
 intro pins s sg H x y v u Q I rx ry h
 obtain ⟨rho, st, d, e, r, S, r1, r2, he, hq⟩ := h
 cases d with
 | loc n =>
  cases e with
  | loc m =>
   simp only [eqN] at he
   cases e1 : dcnOf st n with
   | none => rw [e1] at he; cases he
   | some ka =>
    cases e2 : dcnOf st m with
    | none => rw [e1, e2] at he; cases he
    | some kb =>
     rw [e1, e2] at he
     simp only at he
     obtain ⟨p1, xa, hr1, _, hH1, na⟩ := sto_dcn S e1
     obtain ⟨p2, xb, hr2, _, hH2, nb⟩ := sto_dcn S e2
     obtain ⟨q1, g1, rfl⟩ := rep_loc.mp r1
     obtain ⟨q2, g2, rfl⟩ := rep_loc.mp r2
     rw [hr1] at g1; cases g1
     rw [hr2] at g2; cases g2
     cases rx; cases ry
     obtain ⟨m1, z1, ya, pa, da⟩ := nd_of hK hw I hH1 na
     obtain ⟨m2, z2, yb, pb, db⟩ := nd_of hK hw I hH2 nb
     have la : ka.length = ya.length := (nv_len na).trans (Paired.length pa)
     have lb : kb.length = yb.length := (nv_len nb).trans (Paired.length pb)
     by_cases hl : ka.length = kb.length
     · rw [if_pos hl] at he
       refine eqH (knd := nestKind X.prog X.w) (r := r) (by show X.A.units + 1 + 16 < cLine; omega) (by omega) m1 m2 da db (fun _ => hits_of hK hu I S nb pb na pa he) ⟨.bl _, H, I, rfl, ?_⟩
       rw [← la, ← lb, hl, beq_self_eq_true, Bool.true_and]
       exact hq
     · rw [if_neg hl] at he
       cases he
       refine eqH (knd := nestKind X.prog X.w) (r := false) (by show X.A.units + 1 + 16 < cLine; omega) (by omega) m1 m2 da db (fun z => absurd (la.trans (z.trans lb.symm)) hl) ⟨.bl _, H, I, rfl, ?_⟩
       rw [Bool.and_false]
       exact hq
  | _ => cases he
 | _ => cases he
theorem im_eqM {sg : L2.St} {H : Hp} {Q : VK} (q : tE g (.mt .eqM a' (.cons b' .nil)) sg H Q) : tOp (rEqN g false) (tE g a') (tE g b') sg H Q := by
 obtain ⟨rho, st, env, s, n, q⟩ := q
 simp only [evalE] at q
 refine step s n q fun x st1 u H1 r1 k1 s1 n1 rx q1 => ?_
 split at q1
 · simp only [evalEs, bind_assoc, bind_ok] at q1
   refine step s1 n1 q1 fun y st2 w H2 r2 k2 s2 n2 ry q2 => ?_
   simp only [mtD] at q2
   cases e : eqN st2 x y with
   | none => rw [e] at q2; exact q2.elim
   | some z =>
    rw [e] at q2
    exact ⟨r2, st2, x, y, z, s2, rx.mono k2, ry, e, (show Post g rho H Q (.bl z) st2 from q2) _ H2 r2 (k1.trans k2) s2 (rep_bl.mpr (by simp))⟩
 · exact q1.elim
theorem im_neM {sg : L2.St} {H : Hp} {Q : VK} (q : tE g (.mt .neM a' (.cons b' .nil)) sg H Q) : tOp (rEqN g true) (tE g a') (tE g b') sg H Q := by
 obtain ⟨rho, st, env, s, n, q⟩ := q
 simp only [evalE] at q
 refine step s n q fun x st1 u H1 r1 k1 s1 n1 rx q1 => ?_
 split at q1
 · simp only [evalEs, bind_assoc, bind_ok] at q1
   refine step s1 n1 q1 fun y st2 w H2 r2 k2 s2 n2 ry q2 => ?_
   simp only [mtD] at q2
   cases e : eqN st2 x y with
   | none => rw [e] at q2; exact q2.elim
   | some z =>
    rw [e] at q2
    exact ⟨r2, st2, x, y, z, s2, rx.mono k2, ry, e, (show Post g rho H Q (.bl (!z)) st2 from q2) _ H2 r2 (k1.trans k2) s2 (rep_bl.mpr (by simp))⟩
 · exact q1.elim
theorem mtT {m : Mt} (hm : ∀ x ds st st' d, mtD m x ds st = .ok d st' → ∃ b, d = .bl b) {sg : L2.St} {H : Hp} {Q : Bool → Hp → Prop} (q : tT g (.mt m a' (.cons b' .nil)) sg H Q) : tE g (.mt m a' (.cons b' .nil)) sg H (fun x H' => ∃ z, x = .bl z ∧ Q z H') := by
 obtain ⟨rho, st, env, s, n, q⟩ := q
 refine ⟨rho, st, env, s, n, ?_⟩
 simp only [evalT] at q
 simp only [evalE]
 revert q
 cases evalE g.tab g.call a' env st with
 | bad => exact fun q => q
 | exc c st1 => exact fun q => q
 | ok x st1 =>
  simp only [bind_ok]
  split
  · cases evalEs g.tab g.call (.cons b' .nil) env st1 with
    | bad => exact fun q => q
    | exc c st2 => exact fun q => q
    | ok y st2 =>
     simp only [bind_ok]
     cases e : mtD m x y st2 with
     | bad => exact fun q => q
     | exc c st3 => exact fun q => q
     | ok d st3 =>
      obtain ⟨z, rfl⟩ := hm _ _ _ _ _ e
      simp only [bind_ok, truth]
      intro q v H' rho' k1 s1 r1
      exact ⟨z, rep_bl.mp r1, (show PostB g rho H Q z st3 from q) H' rho' k1 s1⟩
  · exact fun q => q
theorem neM_bl : ∀ x ds st st' d, mtD .neM x ds st = .ok d st' → ∃ b, d = .bl b := fun x ds st st' d h => by
 simp only [mtD] at h
 repeat' (split at h)
 all_goals first | (cases h; exact ⟨_, rfl⟩) | cases h
theorem sd_eqM (hK : X.K = g.K) (hw : g.cls.w = X.w) (hu : X.A.units + 64 < cLine) (ha : Sd g X a a') (hb : Sd g X b b') : Sd g X (.Compare a [.Eq] [b] pos) (.mt .eqM a' (.cons b' .nil)) := pe_imp (pe_cmpR (op := .Eq) (op_eqN (g := g) false hK hw hu) ha hb (nomark _)) fun sg H Q q => im_eqM q
theorem sdt_neM (hK : X.K = g.K) (hw : g.cls.w = X.w) (hu : X.A.units + 64 < cLine) (ha : Sd g X a a') (hb : Sd g X b b') : SdT g X (.Compare a [.NotEq] [b] pos) (.mt .neM a' (.cons b' .nil)) := pt_imp (pt_cmpR (op := .NotEq) (op_eqN (g := g) true hK hw hu) ha hb (nomark _)) fun sg H Q q => im_neM (mtT neM_bl q)
theorem sd_clearN {o : Expr} {o' : E} (hK : X.K = g.K) (hw : g.cls.w = X.w) (ho : Sd g X o o') (hbase : attributeBase o "clear" X.env (eval o X.env) = eval o X.env := by rfl) (hline : (apos.endLine == cpos.line) = true := by rfl) : Sd g X (.Call (.Attribute o "clear" apos) [] [] cpos) (.mt .clearN o' .nil) := by
 intro pins s sg H Q I h
 obtain ⟨rho, st, env, S, n, q⟩ := h
 simp only [evalE] at q
 refine wpAny_Call_method0_late hbase hline (thn (ho pins s sg H (fun v H1 => ∃ p xs kvs r1 st1 m, v = .ref p ∧ r1[m]? = some p ∧ st1[m]? = some (.dcn kvs) ∧ H1 p = some (.ext (NDict g.cls.w p xs)) ∧ NvRep g.K r1 H1 kvs xs ∧ g.Keep rho H r1 H1 ∧ g.Sto r1 st1 H1 ∧ Post g rho H Q .non (st1.set m (.dcn []))) I (step S n q fun d st1 x H1 r1 k1 s1 n1 rp q1 => ?_)) fun v s1 ⟨x, H1, I1, rv, p, xs, kvs, r1, st1, m, e, hr, hc, hH, nv, k1, S1, q1⟩ => ?_)
 · split at q1
   · simp only [evalEs, bind_ok] at q1
     cases d with
     | loc m =>
      simp only [mtD] at q1
      cases ed : dcnOf st1 m with
      | none => rw [ed] at q1; exact q1.elim
      | some kvs =>
       rw [ed] at q1
       obtain ⟨p, xs, hr, hc, hH, nv⟩ := sto_dcn s1 ed
       obtain ⟨p2, hr2, rfl⟩ := rep_loc.mp rp
       rw [hr] at hr2; cases hr2
       exact ⟨p, xs, kvs, r1, st1, m, rfl, hr, hc, hH, nv, k1, s1, q1⟩
     | _ => exact q1.elim
   · exact q1.elim
 · subst e
   cases rv
   obtain ⟨_, _, ys, pr, ob, es, ep, h1, h2, _⟩ := nd_of hK hw I1 hH nv
   refine ⟨"dict", "dict.clear", PySem.F.plainAttrs_dict, PySem.F.slot_dict_clear, PySem.F.type_dict_clear, ⟨ob, h1, h2.1⟩, fun a e => ?_, Calls.callWith_builtin rfl (PySem.evalArgs_none (nd_clear hK hw I1 hH nv fun s2 I2 => ?_))⟩
   · cases e; exact ⟨ob, h1, h2.2.1⟩
   · obtain ⟨k2, S2⟩ := S1.wroteC (o := .ext (NDict g.cls.w p [])) (c1 := .dcn []) hr hc rfl hH ⟨fun _ => nofun, fun _ _ => nofun⟩ fun H3 eH kk => ⟨[], eH, by simp [NvRep]⟩
     exact ⟨.non, _, I2, rfl, q1 .non _ r1 (k1.trans k2) S2 (rep_non.mpr rfl)⟩
end DD
namespace DD
open PySem PySem.Spec L2
variable {tab : Nat → Ty → Option Bool} {call : Or}
theorem hev_isi {a : E} {t : Ty} : ∀ env st, evalT tab call (.isi a t) env st = (evalE tab call (.isi a t) env st).bind fun d st => match truth st d with | some b => .ok b st | none => .bad := fun env st => by
 simp only [evalT, evalE]
 cases evalE tab call a env st with
 | ok x st1 =>
  simp only [bind_ok]
  cases (tyOf st1 x).bind fun u => subT tab u t <;> rfl
 | _ => rfl
end DD
namespace DD
open PySem
end DD
namespace DD
open PySem PySem.Spec L2
open PyProof.Rows hiding St RelV
variable {g : G} {X : Cx} {pos : Pos} {F : Nat}
noncomputable def isCF : NameKind → Bool
 | .cell => true
 | .free => true
 | _ => false
def SubC (cells : List (Str × Addr)) : List (Str × Addr) → Prop
 | [] => True
 | p :: l => cells.lookup p.1 = some p.2 ∧ SubC cells l
theorem subC_lk {cells : List (Str × Addr)} : ∀ {cl : List (Str × Addr)}, SubC cells cl → ∀ x c, cl.lookup x = some c → cells.lookup x = some c
 | [], _, x, c, h => by cases h
 | (k, a) :: l, ⟨h1, h2⟩, x, c, h => by
  rw [List.lookup_cons] at h
  split at h
  · rename_i e
    cases h; rw [eq_of_beq e]; exact h1
  · exact subC_lk h2 x c h
noncomputable def hasC (cl : List (Str × Addr)) (names : List (Str × NameKind)) : Bool := names.all fun p => !isCF p.2 || (cl.lookup p.1).isSome
theorem lk_mem {α : Type} : ∀ {l : List (Str × α)} {x : Str} {a : α}, l.lookup x = some a → (x, a) ∈ l
 | [], x, a, h => by cases h
 | (k, b) :: l, x, a, h => by
  rw [List.lookup_cons] at h
  split at h
  · rename_i e; cases h; rw [eq_of_beq e]; exact .head _
  · exact .tail _ (lk_mem h)
theorem clos_of {scope : Scope} {cl : List (Str × Addr)} (h1 : SubC X.env.cells cl) (h2 : hasC cl (relabel scope X.env).names = true) : Clos X scope cl := by
 refine ⟨subC_lk h1, fun x h => ?_⟩
 unfold hasC at h2
 rw [List.all_eq_true] at h2
 rcases h with h | h
 · have := h2 _ (lk_mem h)
   simp only [isCF, Bool.not_true, Bool.false_or] at this
   exact Option.isSome_iff_exists.mp this
 · have := h2 _ (lk_mem h)
   simp only [isCF, Bool.not_true, Bool.false_or] at this
   exact Option.isSome_iff_exists.mp this
def FvO (N XN : List Str) (cl : List (Str × Addr)) (n1 n2 : List (Str × NameKind)) (nl : Nat) : Nat → List Nat → Prop
 | _, [] => True
 | j, k :: l => (∃ x c, N[nl + j]? = some x ∧ XN[k]? = some x ∧ cl.lookup x = some c ∧ (n1.lookup x = some .cell ∨ n1.lookup x = some .free) ∧ (n2.lookup x = some .cell ∨ n2.lookup x = some .free)) ∧ FvO N XN cl n1 n2 nl (j + 1) l
theorem fvo_get {N XN : List Str} {cl : List (Str × Addr)} {n1 n2 : List (Str × NameKind)} {nl : Nat} : ∀ {l : List Nat} {a : Nat}, FvO N XN cl n1 n2 nl a l → ∀ j k, l[j]? = some k → ∃ x c, N[nl + (a + j)]? = some x ∧ XN[k]? = some x ∧ cl.lookup x = some c ∧ (n1.lookup x = some .cell ∨ n1.lookup x = some .free) ∧ (n2.lookup x = some .cell ∨ n2.lookup x = some .free)
 | [], a, _, j, k, h => by simp at h
 | k0 :: l, a, ⟨h1, h2⟩, 0, k, h => by
  simp only [List.getElem?_cons_zero, Option.some.injEq] at h
  subst h; exact h1
 | k0 :: l, a, ⟨h1, h2⟩, j + 1, k, h => by
  simp only [List.getElem?_cons_succ] at h
  obtain ⟨x, c, q⟩ := fvo_get h2 j k h
  refine ⟨x, c, ?_⟩
  rwa [show nl + (a + (j + 1)) = nl + (a + 1 + j) by omega]
theorem fv_of {N : List Str} {nl : Nat} {fv : List Nat} {scope : Scope} {cl : List (Str × Addr)} (h : FvO N X.N cl X.env.scope.names (relabel scope X.env).names nl 0 fv) :
    ∀ j k, fv[j]? = some k → ∃ x c, N[nl + j]? = some x ∧ X.N[k]? = some x ∧ cl.lookup x = some c ∧ (X.env.scope.names.lookup x = some .cell ∨ X.env.scope.names.lookup x = some .free) ∧ ((relabel scope X.env).names.lookup x = some .cell ∨ (relabel scope X.env).names.lookup x = some .free) := fun j k hj => by
  have := fvo_get h j k hj
  rwa [Nat.zero_add] at this
end DD
namespace DD
open PySem PySem.Spec L2
open PyProof.Rows hiding St RelV
variable {g : G} {X : Cx} {pos apos cpos p2 : Pos} {F : Nat} {a b c : Expr} {a' b' c' : E}
theorem rdyD2 {m : Mt} {st : Sto} {d : D} (hm : m = .sdef ∨ m = .vals ∨ m = .keysL ∨ m = .copyD) (h : rdy m st d = true) : ∃ n kvs, d = .loc n ∧ dctOf st n = some kvs := by
 cases d with
 | loc n =>
  have h : (dctOf st n).isSome = true := by rcases hm with rfl | rfl | rfl | rfl <;> exact h
  cases e : dctOf st n with
  | none => rw [e] at h; cases h
  | some kvs => exact ⟨n, kvs, rfl, e⟩
 | _ => rcases hm with rfl | rfl | rfl | rfl <;> cases h
def rSdef : V → List V → Hp → VK → Prop := fun x vs H Q => ∃ p kvs k v, x = .ref p ∧ vs = [kV k, v] ∧ H p = some (.dK kvs) ∧ kvs.length < sizeLine ∧ (∀ y, valV kvs k = some y → Q y H) ∧ (valV kvs k = none → Q v (upd H p (.dK (putK kvs k v))))
theorem mt_sdef : MtR X "dict.setdefault" rSdef := by
 intro pins s sg H x vs v us Q I rx rv h
 obtain ⟨p, kvs, k, d, rfl, rfl, hp, hz, q1, q2⟩ := h
 cases rx
 cases rv with
 | cons r1 rv =>
  cases rv with
  | cons r2 rv =>
   cases rv
   rename_i u1 u2
   obtain ⟨z, hd, ws, rel, dd⟩ := dk_of I.hok hp
   have hv := rel.val k
   refine call_meetsIn PySem.F.slot_dict_setdefault dd.typeIs PySem.F.entry_dict_setdefault (PySem.F.args_dict_setdefault_3 _ _ _) (kt_meets_setdefault (mixKind X.prog X.w) p (kV_is r1) hd u2) ⟨ws, dd, by rw [← rel.length]; exact z, fun y hy => ?_, fun hn h' dd' hs => ?_⟩
   · rw [hy] at hv
     cases e : valV kvs k with
     | none => rw [e] at hv; cases hv
     | some w => rw [e] at hv; exact ⟨w, H, I.tok _, hv, q1 w e⟩
   · rw [hn] at hv
     cases e : valV kvs k with
     | some w => rw [e] at hv; cases hv
     | none =>
      have hl : (putK kvs k d).length ≤ sizeLine := by have := length_putK kvs k d; omega
      have he : ∃ q, h'.get? p = some q := let ⟨q, _, _, hq, _⟩ := dd'; ⟨q, hq⟩
      exact ⟨d, _, d_write (t' := s.toks + 1) I (by rw [hp]; exact True.intro) hs he (dk_new hl hd (rel.put k r2) dd'), r2, q2 e⟩
theorem sd_sdef {o e f : Expr} {o' e' f' : E} (ho : Sd g X o o') (he : Sd g X e e') (hf : Sd g X f f') (hbase : attributeBase o "setdefault" X.env (eval o X.env) = eval o X.env := by rfl)
    (hfew : ((backTo cpos (starEach [e, f] X.env)).all (fun x => !x.1) && (backToKw cpos (keywordEach [] X.env)).all (fun x => x.1.isSome) && decide ([e, f].length + ([] : List Keyword).length + (if ([] : List Keyword).isEmpty then 0 else 1) < 30)) = true := by rfl)
    (hline : (apos.endLine == cpos.line) = true := by rfl) (hs : starEach [e, f] X.env = (false, eval e X.env) :: starEach [f] X.env := by rfl) (hs2 : starEach [f] X.env = (false, eval f X.env) :: starEach [] X.env := by rfl) (hpl : (backTo cpos (starEach [f] X.env)).any (·.1) = false := by rfl) :
    Sd g X (.Call (.Attribute o "setdefault" apos) [e, f] [] cpos) (.mt .sdef o' (.cons e' (.cons f' .nil))) :=
  pe_imp (pe_bm PySem.F.plainAttrs_dict PySem.F.slot_dict_setdefault PySem.F.type_dict_setdefault mt_sdef ho (sdl_cons he (sdl_cons hf sdl_nil hs2) hs) hbase hfew hline hs hpl) fun sg H Q q => by
    obtain ⟨rho, st, env, s, n, q⟩ := q
    simp only [evalE] at q
    refine step s n q fun d st1 x H1 r1 k1 s1 n1 rp q1 => ?_
    split at q1
    · rename_i hl
      obtain ⟨j, kvs, rfl, ed⟩ := rdyD2 (.inl rfl) hl
      obtain ⟨p, ws, hr, _, hH, kv⟩ := sto_dct s1 ed
      obtain ⟨p2, hr2, rfl⟩ := rep_loc.mp rp
      rw [hr] at hr2; cases hr2
      refine ⟨.inr (.inr (.inl ⟨rfl, .inl ⟨ws, hH⟩⟩)), stepL s1 n1 q1 fun ds st2 vs H2 r2 k2 s2 n2 rps q2 => ?_⟩
      match ds, q2 with
      | [y, z], q2 =>
        obtain ⟨w1, w2, rfl, ry, rz⟩ : ∃ w1 w2, vs = [w1, w2] ∧ g.Rep r2 H2 y w1 ∧ g.Rep r2 H2 z w2 := by
          simp only [G.RepL, RepL] at rps
          obtain ⟨w1, t, rfl, ry, w2, t2, rfl, rz, rfl⟩ := rps
          exact ⟨w1, w2, rfl, ry, rz⟩
        simp only [mtD] at q2
        split at q2
        · rename_i kvs2 ed2
          split at q2
          · rename_i hk
            obtain ⟨k, ek⟩ := kD_key hk.1
            obtain ⟨p3, ws2, hr3, hc3, hH2, kv2⟩ := sto_dct s2 ed2
            rw [k2.at hr] at hr3; cases hr3
            cases rep_kD ry ek
            obtain ⟨l1, l2⟩ := kv_look ek kv2
            refine ⟨p, ws2, k, w2, rfl, rfl, hH2, by rw [← kv_len kv2]; exact hk.2, fun v ev => ?_, fun ev => ?_⟩
            · cases zz : dLook kvs2 y with
              | none => rw [l2 zz] at ev; cases ev
              | some d =>
                rw [zz] at q2
                obtain ⟨v', e1, rv⟩ := l1 d zz
                rw [e1] at ev; cases ev
                exact (show Post g rho H Q d st2 from q2) _ H2 r2 (k1.trans k2) s2 rv
            · cases zz : dLook kvs2 y with
              | some d => obtain ⟨v', e1, rv⟩ := l1 d zz; rw [e1] at ev; cases ev
              | none =>
                rw [zz] at q2
                obtain ⟨k3, s3⟩ := wrote_dct s2 (k2.at hr) hc3 hH2 (kv_put ek rz kv2)
                exact (show Post g rho H Q z _ from q2) _ _ r2 ((k1.trans k2).trans k3) s3 (rz.mono k3)
          · exact q2.elim
        · exact q2.elim
      | [], q2 => exact q2.elim
      | [_], q2 => exact q2.elim
      | _ :: _ :: _ :: _, q2 => exact q2.elim
    · exact q1.elim
end DD
namespace DD
open PySem PySem.Spec L2
open PyProof.Rows hiding St RelV
open PySem.W (kdl_call kdl_values kdl_vals_eq kdl_dict)
variable {g : G} {X : Cx} {pos apos cpos p2 : Pos} {F : Nat} {a b c : Expr} {a' b' c' : E}
end DD
namespace DD
open PySem PySem.Spec
section
variable {pr : Program} {w : World} {A : Around} {Kt : Type} [DecidableEq Kt] {kn : KeyKind pr w Kt}
noncomputable def met (f : Nat → Kt) : Nat → List Kt
 | 0 => []
 | i + 1 => if f i ∈ met f i then met f i else met f i ++ [f i]
variable {R : Result → Shared → Prop} {I : Addr} {fp wr : List Addr} {G : Array GenState → Array GenState → Prop} {n : Nat} {P : Nat → Value → Prop} {St : Nat → Shared → Prop}
end
end DD
namespace DD
open PySem PySem.Spec
section
variable {pr : Program} {w : World} {A : Around} {Er : Value → Shared → Prop} {s : Shared} {Kt : Type} [DecidableEq Kt] {kn : KeyKind pr w Kt}
end
end DD
namespace DD
open PySem PySem.Spec L2
open PyProof.Rows hiding St RelV
variable {g : G} {X : Cx} {pos apos cpos p2 : Pos} {F : Nat} {a b c : Expr} {a' b' c' : E}
end DD
namespace DD
open PySem PySem.Spec L2
open PyProof.Rows hiding St RelV
section
variable {pr : Program} {w : World} {A : Around} {Er : Value → Shared → Prop}
end
variable {g : G} {X : Cx} {pos apos cpos p2 : Pos} {F : Nat} {a b c : Expr} {a' b' c' : E}
end DD
namespace DD
open PySem PySem.Spec L2
open PyProof.Rows hiding St RelV
variable {g : G} {X : Cx} {pos : Pos} {F : Nat}
theorem Inv.loose {pins : List (Addr × Obj)} {sg : L2.St} {H : Hp} {s : Shared} {C : Addr} {h' : Heap} (I : L2.Inv X pins sg H s) (f : FpOk X pins H C) (sb : Heap.SameBut C s.heap h') : L2.Inv X pins sg H { s with heap := h' } := by
 have nb : ∀ b : Addr, b ∉ [C] → b ≠ C := fun b z e => z (by rw [e]; simp)
 refine I.call' (s' := { s with heap := h' }) (ch := [C]) rfl ⟨fun b o e n hb hx => (sb.2 b (nb b hx)).trans e, fun b o e n hb hx => ⟨o.slots, (sb.2 b (nb b hx)).trans e⟩, fun b o e n hx => n, fun b o e hx => ⟨o, (sb.2 b (nb b hx)).trans e⟩, fun _ _ z => z, fun _ _ _ z => z, fun b ps z => ⟨#[], by simpa using z⟩⟩ (fun b o e => ?_) I.bare fun b hb => ?_
 · refine (I.hok b o e).stay (fun c u hc' g' => (sb.2 c ?_).trans g') (fun _ h => h) fun _ _ h => h
   intro z
   rcases hc' with rfl | hc'
   · rw [z, f.1] at e; cases e
   · rw [z, f.1] at hc'; cases hc'
 · simp only [List.mem_singleton] at hb
   subst hb
   exact ⟨f.2.2.2.1, f.2.1, f.2.2.2.2.1, f.2.2.2.2.2⟩
theorem s_setC {elt iter target : Expr} {ifs : List Expr} {N : List Str} {nl : Nat} {fv tgs : List Nat} {one : Bool} {k : Nat} {scope : Scope} {x : Str} {i : Nat} {pos' spos : Pos} {cl : List (Str × Addr)} {it' elt' : E} {ifs' : Es} (hK : X.K = g.K) (hc : X.calm = true) (hkind : scope.kind = .function) (hcell : ∀ y ∈ scope.names, y.2 ≠ .cell)
    (hnames : ∀ y ∈ scope.names, y.2 = .local → scope.names.lookup y.1 = some .local) (hclos : closureFor scope X.env = pure cl) (C : Clos X scope cl) (hN : N.length = nl + fv.length)
    (hfv : ∀ j k, fv[j]? = some k → ∃ x c, N[nl + j]? = some x ∧ X.N[k]? = some x ∧ cl.lookup x = some c ∧ (X.env.scope.names.lookup x = some .cell ∨ X.env.scope.names.lookup x = some .free) ∧ ((relabel scope X.env).names.lookup x = some .cell ∨ (relabel scope X.env).names.lookup x = some .free))
    (htg : ∀ i ∈ tgs, i < nl) (hi : SdI g X target iter k it') (hg : ∀ L s0 H0 fp pn, PG (cxG X N scope cl L s0 H0 fp pn) target (tg g.K tgs one))
    (ht : ∀ L s0 H0 fp pn, PTs (cxG X N scope cl L s0 H0 fp pn) ifs (tIfs (g.with fun _ _ _ => False) ifs')) (he : ∀ L s0 H0 fp pn, Sd (g.with fun _ _ _ => False) (cxG X N scope cl L s0 H0 fp pn) elt elt')
    (hs : ∀ x, foldedSetIterable iter X.env x = pure x := by intro _; rfl)
    (hNd : X.N.Nodup) (hix : X.N[i]? = some x) (hx : X.env.scope.names.lookup x = some .local) (hsw : swapsWith (.ListComp elt [⟨target, iter, ifs, 0⟩] scope pos) (some (.Name x pos')) spos.line X.env = pure true := by rfl) :
    SdS g X F (.Assign [.Name x pos'] (.ListComp elt [⟨target, iter, ifs, 0⟩] scope pos) spos) (.set i (.comp k one nl tgs fv it' ifs' elt')) := by
  intro pins s sg H D I q
  have q : tE g (.comp k one nl tgs fv it' ifs' elt') sg H (fun v H1 => D.nx (sg.set i (some v)) H1) := by
    obtain ⟨rho, st, env, s, n, q⟩ := q
    refine ⟨rho, st, env, s, n, ?_⟩
    simp only [execS] at q
    revert q
    cases evalE g.tab g.call (.comp k one nl tgs fv it' ifs' elt') env st with
    | bad => exact fun q => q
    | exc c st1 => exact fun q => q
    | ok d st1 =>
      simp only [bind_ok]
      intro q v H1 rho1 k1 s1 rp
      split at q
      · exact (show PostF g rho H D (.next _) st1 from q) _ H1 rho1 k1 s1 ((n.mono k1).set i rp)
      · exact q.elim
  rw [exec_Assign_Name_used _ _ _ _ hsw]
  refine wpAny_bind (wpAny_standAt (wpAny_bind ?_))
  show wpAny _ _ (comprehension (.ListComp elt [⟨target, iter, ifs, 0⟩] scope pos) scope X.env (firstIterPos [⟨target, iter, ifs, 0⟩] pos) (newList []) (firstAsync [⟨target, iter, ifs, 0⟩]) (firstIter [⟨target, iter, ifs, 0⟩] X.env) (some (assign (.Name x pos') X.env)) >>= fun _ => pure ()) _ _ s
  refine wpAny_bind (wpAny_mono (compG_core (use := some (assign (.Name x pos') X.env)) (Qv := fun _ s' => ∃ sg' H', L2.Inv X pins sg' H' s' ∧ D.nx sg' H') hK hc hkind hcell hnames hclos C hN hfv htg hi hg ht he hs I q fun ac Cc H' s4 hns fp hI hq => ?_) (fun _ s5 h5 => wpAny_pure (wpAny_pure h5)) fun _ _ z => z)
  obtain ⟨m, hm⟩ := hns
  have I4 := hI s4.heap (Heap.SameBut.refl ..)
  show wpAny _ _ (assign (.Name x pos') X.env (.ref ac)) _ _ s4
  refine wpAny_assign_Name (store_ok2 (v := .ref ac) I4 hNd hix (.inl hx) rfl (fun s5 I5 hsb => ?_) (.inr hx))
  obtain ⟨a, sb, ha⟩ := hsb
  have na : Cc ≠ a := by
    rcases ha with z | z
    · rw [z]; exact fp.2.1
    · exact fun e => fp.2.2.2.2.1 x a z e.symm
  refine ⟨m, ?_, fun h' sb' => ⟨_, H', Inv.loose I5 fp sb', hq⟩⟩
  exact hm.at' fun o e => (sb.2 Cc na).trans e
end DD
namespace DD
open PySem PySem.Spec L2
open PyProof.Rows hiding St
theorem repl_ints {K : PySem.W.Frag} {rho : List Addr} {H : Hp} : ∀ ns : List Int, RepL K rho H (ns.map D.int) (ns.map V.int)
 | [] => by simp [RepL]
 | n :: r => by simp only [List.map_cons, RepL]; exact ⟨_, _, rfl, by simp [Rep], repl_ints r⟩
theorem sp_start {K : PySem.W.Frag} {cls : CW} {run : List D → Sto → Res D} {ns : List Int} {st : Sto} (e : run [.loc 0] [.frz (ns.map D.int)] = .ok (.bl true) st)
    (H : Hp) (a : Addr) (hO : Only H) (hS : SqL K H a (ns.map V.int)) : spD K cls 1 run [.ref a] H (fun v _ => v = .bl true) fun _ _ _ => False := by
  refine ⟨rfl, [a], [.frz (ns.map D.int)], [.loc 0], ⟨rfl, ?_, ?_⟩, ?_, ?_⟩
  · intro n k b c d h1 h2 h3 h4 t1 t2
    cases n with
    | zero => cases h3; cases t1
    | succ n => cases h3
  · intro n b c h1 h2
    cases n with
    | zero =>
      cases h1; cases h2
      refine ⟨ns.map V.int, ?_, repl_ints ns⟩
      rcases hS with h | h
      · rcases h with h | ⟨o, h⟩
        · rcases hO _ with z | ⟨o, xs, z⟩
          · rw [h] at z; cases z
          · rw [h] at z; cases z
        · exact .inl ⟨o, h⟩
      · exact .inr h
    | succ n => cases h1
  · simp [RepL, Rep]
  · rw [e]
    intro v H' rho' _ _ r
    simpa [Rep] using r
theorem cx_none {P : Program} {w : World} (H : Hp) (s : Shared) (e : Value) (s' : Shared) (h : CXd P w [] H s (fun _ _ _ => False) e s') : False := by
 obtain ⟨_, _, _, _, _, _, _, z⟩ := h
 exact z
end DD
namespace DD
open PySem L2
section
variable {t : Nat → Ty → Option Bool} {call : Or} {F : Nat} {env : DD.Env} {st : Sto}
theorem x_nil : execSs t call F .nil env st = .ok (.next env) st := by simp only [execSs]
theorem x_cons {s : S} {r : Ss} : execSs t call F (.cons s r) env st = (execS t call F s env st).bind fun f st => match f with
      | .next env' => execSs t call F r env' st
      | f => .ok f st := by simp only [execSs] <;> rfl
theorem x_set {i : Nat} {e : E} : execS t call F (.set i e) env st = (evalE t call e env st).bind fun d st => if i < env.length then .ok (.next (env.set i (some d))) st else .bad := by simp only [execS]
theorem x_unp {is : List Nat} {e : E} : execS t call F (.unp is e) env st = (evalE t call e env st).bind fun d st => match store is false d env with | some env' => .ok (.next env') st | none => .bad := by simp only [execS] <;> rfl
theorem x_par {i j : Nat} {a b : E} : execS t call F (.par i j a b) env st = (evalE t call a env st).bind fun x st => (evalE t call b env st).bind fun y st => if i < env.length ∧ j < env.length then .ok (.next ((env.set i (some x)).set j (some y))) st else .bad := by simp only [execS]
theorem x_if {c : E} {a b : Ss} : execS t call F (.ifS c a b) env st = (evalT t call c env st).bind fun x st => if x then execSs t call F a env st else execSs t call F b env st := by simp only [execS]
theorem x_ret {e : E} : execS t call F (.ret e) env st = (evalE t call e env st).bind fun d st => .ok (.ret d) st := by simp only [execS]
theorem x_ex {e : E} : execS t call F (.ex e) env st = (evalE t call e env st).bind fun d st => .ok (.next env) st := by simp only [execS]
theorem x_while {c : E} {b : Ss} : execS t call F (.whileS c b) env st = whileLoop (evalT t call c) (execSs t call F b) F env st := by simp only [execS]
end
section
variable {t : Nat → Ty → Option Bool} {call : Or} {F : Nat} {env : DD.Env} {st : Sto}
noncomputable def turn (t : Nat → Ty → Option Bool) (call : Or) (F : Nat) (tg : List Nat) (one : Bool) (b : Ss) (d : D) (env : DD.Env) (st : Sto) : Res Fl := match store tg one d env with | some env' => execSs t call F b env' st | none => .bad
theorem turn_at {tg : List Nat} {one : Bool} {b : Ss} {d : D} {env' : DD.Env} (h : store tg one d env = some env') : turn t call F tg one b d env st = execSs t call F b env' st := by unfold turn; rw [h]
theorem x_for {tg : List Nat} {one k : Bool} {it : E} {b : Ss} : execS t call F (.forS tg one k it b) env st = (evalE t call it env st).bind fun d st => match walkOf k st d with
      | some (xs, p) => forLoop xs p (turn t call F tg one b) xs env st
      | none => .bad := by simp only [execS] <;> rfl
theorem x_forR {tg : List Nat} {es : Es} {b : Ss} : execS t call F (.forR tg es b) env st = (evalEs t call es env st).bind fun ds st => match rngOf ds with
      | some xs => forLoop xs none (turn t call F tg true b) xs env st
      | none => .bad := by simp only [execS] <;> rfl
end
theorem for_keep {all : List D} {p : Option Nat} {body : D → DD.Env → Sto → Res Fl} {J : Nat → DD.Env → Sto → Prop} (hs : ∀ i env st, J i env st → stays st p all = true) :
    ∀ (xs : List D) (i : Nat) (env : DD.Env) (st : Sto), J i env st → (∀ (j : Nat) (d : D), xs[j]? = some d → ∀ env st, J (i + j) env st → ∃ env' st', body d env st = .ok (.next env') st' ∧ J (i + j + 1) env' st') →
    ∃ env' st', forLoop all p body xs env st = .ok (.next env') st' ∧ J (i + xs.length) env' st'
  | [], i, env, st, h, _ => ⟨env, st, by simp only [forLoop]; rw [if_pos (hs _ _ _ h)], h⟩
  | d :: r, i, env, st, h, ht => by
    obtain ⟨e1, s1, h1, h2⟩ := ht 0 d rfl env st h
    obtain ⟨e2, s2, h3, h4⟩ := for_keep hs r (i + 1) e1 s1 h2 fun j x hx env st hj => by
      have := ht (j + 1) x (by simpa using hx) env st (by rwa [show i + (j + 1) = i + 1 + j by omega])
      rwa [show i + (j + 1) + 1 = i + 1 + j + 1 by omega] at this
    refine ⟨e2, s2, ?_, by rwa [show i + (d :: r).length = i + 1 + r.length by simp; omega]⟩
    simp only [forLoop]
    rw [if_pos (hs _ _ _ h), h1, bind_ok]
    exact h3
theorem set_at {st : Sto} {n0 : Nat} {c : Cell} (h : st[n0]? = some c) (d : Cell) : (st.set n0 d)[n0]? = some d := by
 have : n0 < st.length := (List.getElem?_eq_some_iff.mp h).1
 simp [this]
noncomputable def turnC (t : Nat → Ty → Option Bool) (call : Or) (tg : List Nat) (one : Bool) (env : DD.Env) (ifs : Es) (elt : E) (d : D) (st : Sto) : Res (Option D) := match store tg one d env with
 | some env' => (evalIfs t call ifs env' st).bind fun b st => if b then (evalE t call elt env' st).bind fun y st => .ok (some y) st else .ok none st
 | none => .bad
theorem e_compAt {t : Nat → Ty → Option Bool} {call : Or} {env : DD.Env} {st st1 : Sto} {k nl : Nat} {one : Bool} {tg fv : List Nat} {it elt : E} {ifs : Es} {d : D} {xs : List D} {p : Option Nat} (h : evalE t call it env st = .ok d st1) (hi : itOf k st1 d = some (xs, p)) :
    evalE t call (.comp k one nl tg fv it ifs elt) env st = (compLoop xs p st1.length (turnC t call tg one (envIn nl fv env) ifs elt) xs (st1 ++ [.lst []])).bind fun _ st' => .ok (.loc st1.length) st' := by
  rw [evalE, h]
  simp only [bind_ok, hi]
  rfl
theorem comp_inv {all : List D} {p : Option Nat} {n0 : Nat} {body : D → Sto → Res (Option D)} {f : D → Option D} {J : Sto → Prop} (hs : ∀ st, J st → stays st p all = true) (hset : ∀ st ys, J st → J (st.set n0 (.lst ys))) :
    ∀ (xs ys : List D) (st : Sto), J st → st[n0]? = some (.lst ys) → ys.length + xs.length ≤ sizeLine →
    (∀ d ∈ xs, ∀ st ys, J st → st[n0]? = some (.lst ys) → ∃ st', body d st = .ok (f d) st' ∧ J st' ∧ st'[n0]? = some (.lst ys)) →
    ∃ st', compLoop all p n0 body xs st = .ok () st' ∧ J st' ∧ st'[n0]? = some (.lst (ys ++ xs.filterMap f))
  | [], ys, st, h, hy, _, _ => ⟨st, by simp only [compLoop]; rw [if_pos (hs _ h)], h, by simpa using hy⟩
  | d :: r, ys, st, h, hy, hl, hb => by
    obtain ⟨s1, e1, j1, y1⟩ := hb d List.mem_cons_self st ys h hy
    simp only [compLoop]
    rw [if_pos (hs _ h), e1]
    have hl2 : ys.length < sizeLine := by simp at hl; omega
    cases hf : f d with
    | none =>
      obtain ⟨s2, e2, j2, y2⟩ := comp_inv hs hset r ys s1 j1 y1 (by simp at hl ⊢; omega) fun x hx => hb x (List.mem_cons_of_mem _ hx)
      exact ⟨s2, e2, j2, by rw [List.filterMap_cons, hf]; exact y2⟩
    | some y =>
      obtain ⟨s2, e2, j2, y2⟩ := comp_inv hs hset r (ys ++ [y]) (s1.set n0 (.lst (ys ++ [y]))) (hset _ _ j1) (set_at y1 _) (by simp at hl ⊢; omega) fun x hx => hb x (List.mem_cons_of_mem _ hx)
      refine ⟨s2, ?_, j2, by rw [List.filterMap_cons, hf]; simpa using y2⟩
      simp only [y1, hl2, if_true]
      exact e2
def Fr (st st' : Sto) : Prop := ∀ j, j < st.length → st'[j]? = st[j]?
theorem Fr.refl (st : Sto) : Fr st st := fun _ _ => rfl
theorem Fr.app {st : Sto} (m : Sto) : Fr st (st ++ m) := fun j h => List.getElem?_append_left h
theorem Fr.at {st st' : Sto} (h : Fr st st') {j : Nat} {c : Cell} (e : st[j]? = some c) : st'[j]? = some c := by rw [h j (List.getElem?_eq_some_iff.mp e).1]; exact e
theorem Fr.len {st st' : Sto} (h : Fr st st') : st.length ≤ st'.length := by
 cases Nat.lt_or_ge st'.length st.length with
 | inr g => exact g
 | inl g =>
  have h1 := h st'.length g
  rw [List.getElem?_eq_none (Nat.le_refl _), List.getElem?_eq_getElem g] at h1
  cases h1
theorem Fr.trans {a b c : Sto} (h : Fr a b) (k : Fr b c) : Fr a c := fun j hj => (k j (Nat.lt_of_lt_of_le hj h.len)).trans (h j hj)
theorem Fr.set {a b : Sto} (h : Fr a b) {n : Nat} (hn : a.length ≤ n) (c : Cell) : Fr a (b.set n c) := fun j hj => by
 rw [List.getElem?_set_ne (by omega)]; exact h j hj
theorem Fr.lst {st st' : Sto} (h : Fr st st') {n : Nat} {xs : List D} (e : lstOf st n = some xs) : lstOf st' n = some xs := by
 unfold lstOf at e ⊢
 cases z : st[n]? with
 | none => rw [z] at e; cases e
 | some c => rw [h.at z]; rw [z] at e; exact e
section
variable {st : Sto}
theorem o_add {i j : Int} : opD .add (.int i) (.int j) st = .ok (.int (i + j)) st := by simp only [opD]
theorem o_sub {i j : Int} : opD .sub (.int i) (.int j) st = .ok (.int (i - j)) st := by simp only [opD]
theorem o_mul {i j : Int} (h : mulOk i j) : opD .mul (.int i) (.int j) st = .ok (.int (i * j)) st := by simp only [opD]; rw [if_pos h]
theorem o_fdiv {i j : Int} (h : divOk j) : opD .fdiv (.int i) (.int j) st = .ok (.int (i.fdiv j)) st := by simp only [opD]; rw [if_pos h]
theorem o_mod {i j : Int} (h : j ≠ 0) : opD .mod (.int i) (.int j) st = .ok (.int (i.fmod j)) st := by simp only [opD]; rw [if_pos h]
theorem o_pow {i j : Int} (h : powOk i j) : opD .pow (.int i) (.int j) st = .ok (.int (i ^ j.toNat)) st := by simp only [opD]; rw [if_pos h]
theorem o_addL {n m : Nat} {xs ys : List D} (hn : st[n]? = some (.lst xs)) (hm : st[m]? = some (.lst ys)) (h : xs.length + ys.length ≤ sizeLine) : opD .add (.loc n) (.loc m) st = .ok (.loc st.length) (st ++ [.lst (xs ++ ys)]) := by
 simp only [opD, hn, hm]; rw [if_pos h]
theorem m_eqi {i j : Int} : cmD .eq (.int i) (.int j) st = .ok (.bl (decide (i = j))) st := by simp [cmD, eqV, pyOf, PyData.eqv] <;> rfl
theorem m_nei {i j : Int} : cmD .ne (.int i) (.int j) st = .ok (.bl (!decide (i = j))) st := by simp [cmD, eqV, pyOf, PyData.eqv] <;> rfl
theorem m_lt {i j : Int} : cmD .lt (.int i) (.int j) st = .ok (.bl (decide (i < j))) st := by simp only [cmD]
theorem m_le {i j : Int} : cmD .le (.int i) (.int j) st = .ok (.bl (decide (i ≤ j))) st := by simp only [cmD]
theorem m_gt {i j : Int} : cmD .gt (.int i) (.int j) st = .ok (.bl (decide (j < i))) st := by simp only [cmD]
theorem m_ge {i j : Int} : cmD .ge (.int i) (.int j) st = .ok (.bl (decide (j ≤ i))) st := by simp only [cmD]
theorem b_intb {b : Bool} : btD .intB [.bl b] st = .ok (.int (if b then 1 else 0)) st := by simp only [btD]
theorem b_lenT {xs : List D} : btD .lenB [.tup xs] st = .ok (.int xs.length) st := by simp only [btD]
theorem b_lenL {n : Nat} {xs : List D} (h : lstOf st n = some xs) : btD .lenB [.loc n] st = .ok (.int xs.length) st := by simp only [btD, h]
theorem ix_T {i : Int} {xs : List D} : ixD (.tup xs) (.int i) st = match L2.atI xs i with | some d => .ok d st | none => .bad := by simp only [ixD, ixS, seqOf, atD] <;> rfl
theorem dct_lst {n : Nat} {xs : List D} (h : lstOf st n = some xs) : dctOf st n = none ∧ dcnOf st n = none := by
 unfold lstOf at h; unfold dctOf dcnOf
 cases z : st[n]? with
 | none => exact ⟨rfl, rfl⟩
 | some c => rw [z] at h; cases c <;> first | exact ⟨rfl, rfl⟩ | cases h
theorem i_atL {n : Nat} {i : Int} {xs : List D} {d : D} (h : lstOf st n = some xs) (e : L2.atI xs i = some d) : ixD (.loc n) (.int i) st = .ok d st := by
 simp only [ixD, (dct_lst h).1, (dct_lst h).2, ixS, seqOf, h, atD, e]
end
section
variable {t : Nat → Ty → Option Bool} {call : Or} {env : DD.Env} {st : Sto}
theorem e_var {i : Nat} : evalE t call (.var i) env st = match getV env i with | some d => .ok d st | none => .bad := by simp only [evalE] <;> rfl
theorem e_vr {i : Nat} {d : D} (h : getV env i = some d) : evalE t call (.var i) env st = .ok d st := by rw [e_var, h]
theorem e_cst {d : D} : evalE t call (.cst d) env st = .ok d st := by simp only [evalE]
end
theorem gg0 {st m : Sto} : (st ++ m)[st.length]? = m[0]? := by
 rw [List.getElem?_append_right (by omega)]; congr 1; omega
theorem py_ok {st : Sto} : ∀ {n m : Nat} {d : D}, okN n d = true → n ≤ m → pyOf st m d = some (pyN n d)
 | n, m, .int i, _, _ => by cases m <;> cases n <;> simp [pyOf, pyN]
 | n, m, .str x, h, _ => by
  have h2 : PyData.canLay0 (.str x) = true := by cases n <;> simpa [okN] using h
  cases m <;> cases n <;> simp [pyOf, pyN, h2]
 | 0, m, .tup ds, h, _ => by simp [okN] at h
 | n + 1, 0, .tup ds, _, h => by omega
 | n + 1, m + 1, .tup ds, h, hm => by
  have all : ∀ ds : List D, ds.all (okN n) = true → optAll (ds.map (pyOf st m)) = some (ds.map (pyN n)) := by
   intro ds
   induction ds with
   | nil => intro _ <;> rfl
   | cons d r ih =>
    intro h
    simp only [List.all_cons, Bool.and_eq_true] at h
    simp only [List.map_cons, py_ok h.1 (by omega : n ≤ m), optAll, ih h.2, Option.map_some]
  have h : ds.all (okN n) = true := by simpa [okN] using h
  simp only [pyOf, all ds h, Option.map_some, pyN]
 | n, m, .non, h, _ => by cases n <;> simp [okN] at h
 | n, m, .bl b, h, _ => by cases n <;> simp [okN] at h
 | n, m, .loc b, h, _ => by cases n <;> simp [okN] at h
theorem eqv_ok : ∀ {n : Nat} {x y : D}, okN n x = true → okN n y = true → PyData.eqv (pyN n x) (pyN n y) = decide (x = y) := by
 intro n
 induction n with
 | zero =>
  intro x y h1 h2
  cases x <;> simp [okN] at h1 <;> cases y <;> simp [okN] at h2 <;> simp [pyN, PyData.eqv] <;> (first | rfl | exact Bool.beq_eq_decide_eq _ _)
 | succ n ih =>
  intro x y h1 h2
  cases x with
  | int i => cases y <;> simp [okN] at h2 <;> simp [pyN, PyData.eqv] <;> rfl
  | str i => cases y <;> simp [okN] at h2 <;> simp [pyN, PyData.eqv] <;> rfl
  | tup ds =>
   cases y with
   | int i => simp [pyN, PyData.eqv]
   | str i => simp [pyN, PyData.eqv]
   | tup es =>
    have all : ∀ ds es : List D, ds.all (okN n) = true → es.all (okN n) = true → PyData.eqvAll (ds.map (pyN n)) (es.map (pyN n)) = decide (ds = es) := by
     intro ds
     induction ds with
     | nil => intro es _ _; cases es <;> simp [PyData.eqvAll]
     | cons d r ih2 =>
      intro es h1 h2
      cases es with
      | nil => simp [PyData.eqvAll]
      | cons e t =>
       simp only [List.all_cons, Bool.and_eq_true] at h1 h2
       simp only [List.map_cons, PyData.eqvAll, ih h1.1 h2.1, ih2 t h1.2 h2.2, List.cons.injEq, Bool.decide_and]
    simp only [pyN, PyData.eqv, all ds es (by simpa [okN] using h1) (by simpa [okN] using h2)]
    simp
   | _ => simp [okN] at h2
  | _ => simp [okN] at h1
theorem pyL_ok {st : Sto} {n m : Nat} (hm : n ≤ m) : ∀ ds : List D, ds.all (okN n) = true → optAll (ds.map (pyOf st m)) = some (ds.map (pyN n))
 | [], _ => rfl
 | d :: r, h => by
  simp only [List.all_cons, Bool.and_eq_true] at h
  simp only [List.map_cons, py_ok h.1 hm, optAll, pyL_ok hm r h.2, Option.map_some]
theorem any_ok {n : Nat} {a : D} (ha : okN n a = true) : ∀ xs : List D, xs.all (okN n) = true → ((xs.map (pyN n)).any fun y => PyData.eqv y (pyN n a)) = decide (a ∈ xs)
 | [], _ => by simp
 | d :: r, h => by
  simp only [List.all_cons, Bool.and_eq_true] at h
  simp only [List.map_cons, List.any_cons, eqv_ok h.1 ha, any_ok ha r h.2, List.mem_cons, Bool.decide_or]
  congr 1
  simp only [eq_comm]
section
variable {st : Sto} {n : Nat} {a b : D} {xs ys : List D}
theorem m_eqN (ha : okN 40 a = true) (hb : okN 40 b = true) : cmD .eq a b st = .ok (.bl (decide (a = b))) st := by
 simp only [cmD, eqV, py_ok ha (Nat.le_refl _), py_ok hb (Nat.le_refl _), eqv_ok ha hb]
theorem m_inT (ha : okN 40 a = true) (hx : xs.all (okN 40) = true) : cmD .inL a (.tup xs) st = .ok (.bl (decide (a ∈ xs))) st := by
 simp only [cmD, inD, inS, py_ok ha (Nat.le_refl _), py_ok (n := 41) (m := 41) (d := .tup xs) (by simpa [okN] using hx) (Nat.le_refl _), pyN, any_ok ha xs hx]
theorem m_inLi {l : Nat} (h : lstOf st l = some xs) (ha : okN 40 a = true) (hx : xs.all (okN 40) = true) : inD st a (.loc l) = some (decide (a ∈ xs)) := by
 simp only [inD, (dct_lst h).1, (dct_lst h).2, inS, py_ok ha (Nat.le_refl _), pyOf, h, Option.bind_some, pyL_ok (Nat.le_refl 40) xs hx, Option.map_some, any_ok ha xs hx]
theorem m_inL {l : Nat} (h : lstOf st l = some xs) (ha : okN 40 a = true) (hx : xs.all (okN 40) = true) : cmD .inL a (.loc l) st = .ok (.bl (decide (a ∈ xs))) st := by
 simp only [cmD, m_inLi h ha hx]
theorem m_notInL {l : Nat} (h : lstOf st l = some xs) (ha : okN 40 a = true) (hx : xs.all (okN 40) = true) : cmD .notIn a (.loc l) st = .ok (.bl (!decide (a ∈ xs))) st := by
 simp only [cmD, m_inLi h ha hx]
end
theorem lst_at {st : Sto} {n : Nat} {xs : List D} (h : st[n]? = some (.lst xs)) : lstOf st n = some xs := by simp only [lstOf, h]
theorem okN_mono : ∀ {n m : Nat} {d : D}, n ≤ m → okN n d = true → okN m d = true
 | _, _, .int _, _, _ => by simp [okN]
 | n, m, .str x, _, h => by cases n <;> cases m <;> simpa [okN] using h
 | 0, _, .tup _, _, h => by simp [okN] at h
 | n + 1, 0, .tup ds, hm, _ => by omega
 | n + 1, m + 1, .tup ds, hm, h => by
  simp only [okN, List.all_eq_true] at h ⊢
  exact fun x hx => okN_mono (by omega) (h x hx)
 | n, _, .non, _, h => by cases n <;> simp [okN] at h
 | n, _, .bl _, _, h => by cases n <;> simp [okN] at h
 | n, _, .loc _, _, h => by cases n <;> simp [okN] at h
theorem Fr.keep {a b : Sto} (h : Fr a b) {n : Nat} {c : Cell} (e : a[n]? = some c) : b[n]? = some c := h.at e
theorem comp_fr {st0 : Sto} {all xs : List D} {p : Option Nat} {body : D → Sto → Res (Option D)} {f : D → Option D} (hl : xs.length ≤ sizeLine) (hs : ∀ s, Fr st0 s → stays s p all = true)
    (hb : ∀ d ∈ xs, ∀ s, Fr st0 s → ∃ s', body d s = .ok (f d) s' ∧ Fr s s') :
    ∃ st', compLoop all p st0.length body xs (st0 ++ [.lst []]) = .ok () st' ∧ Fr st0 st' ∧ st'[st0.length]? = some (.lst (xs.filterMap f)) := by
  obtain ⟨s', e, J, y⟩ := comp_inv (all := all) (p := p) (n0 := st0.length) (body := body) (f := f) (J := Fr st0) hs (fun s ys h => h.set (Nat.le_refl _) _) xs [] (st0 ++ [.lst []]) (.app _) (by simp) (by simpa using hl) (fun d hd s ys hJ hn => by
    obtain ⟨s', e, F⟩ := hb d hd s hJ
    exact ⟨s', e, hJ.trans F, F.at hn⟩)
  exact ⟨s', e, J, by simpa using y⟩
theorem fm_some {α β : Type} (g : α → β) (xs : List α) : xs.filterMap (fun x => some (g x)) = xs.map g := by
 induction xs with
 | nil => rfl
 | cons x r ih => simp [List.filterMap_cons, ih]
theorem stays_l {st0 s : Sto} {n : Nat} {xs : List D} (h : lstOf st0 n = some xs) (F : Fr st0 s) : stays s (some n) xs = true := by simp only [stays, F.lst h, decide_true]
theorem cut_take {xs : List D} {k : Nat} : cutD xs none (some (k : Int)) = xs.take k := by
 unfold cutD
 rw [HT.sIx_none, HT.sIx_nat]
 simp only [List.drop_zero, Nat.sub_zero]
 rw [List.take_eq_take_iff]
 omega
end DD
namespace DD
open PySem L2
def Wr {α : Type} (r : Res α) (Q : α → Sto → Prop) : Prop := ∃ a s, r = .ok a s ∧ Q a s
section
variable {α β : Type} {r : Res α} {Q P : α → Sto → Prop} {a : α} {s : Sto}
theorem wr_ok (h : Q a s) : Wr (.ok a s) Q := ⟨a, s, rfl, h⟩
theorem wr_of (e : r = .ok a s) (h : Q a s) : Wr r Q := ⟨a, s, e, h⟩
theorem Wr.imp (h : Wr r P) (g : ∀ a s, P a s → Q a s) : Wr r Q := by
 obtain ⟨a, s, e, p⟩ := h
 exact ⟨a, s, e, g a s p⟩
theorem wr_bind {R : β → Sto → Prop} {f : α → Sto → Res β} (h : Wr r fun a s => Wr (f a s) R) : Wr (r.bind f) R := by
 obtain ⟨a, s, rfl, p⟩ := h
 exact p
theorem wp_t {A B : Prop} (h : A) : ((true = true → A) ∧ (true = false → B)) := ⟨fun _ => h, fun h => by cases h⟩
theorem wp_f {A B : Prop} (h : B) : ((false = true → A) ∧ (false = false → B)) := ⟨(fun h => by cases h), fun _ => h⟩
end
section
variable {t : Nat → Ty → Option Bool} {call : Or} {F : Nat} {env : DD.Env} {st : Sto} {Q : D → Sto → Prop} {QL : List D → Sto → Prop} {QB : Bool → Sto → Prop} {QF : Fl → Sto → Prop}
theorem w_var {i : Nat} {d : D} (h : getV env i = some d) (q : Q d st) : Wr (evalE t call (.var i) env st) Q := ⟨d, st, e_vr h, q⟩
theorem w_cst {d : D} (q : Q d st) : Wr (evalE t call (.cst d) env st) Q := ⟨d, st, e_cst, q⟩
theorem w_nil (q : QL [] st) : Wr (evalEs t call .nil env st) QL := ⟨[], st, by rw [evalEs], q⟩
theorem w_cons {e : E} {es : Es} (h : Wr (evalE t call e env st) fun d s => Wr (evalEs t call es env s) fun ds s => QL (d :: ds) s) : Wr (evalEs t call (.cons e es) env st) QL := by
 rw [evalEs]
 exact wr_bind (h.imp fun d s h => wr_bind (h.imp fun ds s h => wr_ok h))
theorem w_inil (q : QL [] st) : Wr (evalIs t call .nil env st) QL := ⟨[], st, by rw [evalIs], q⟩
theorem w_icons {e : E} {es : Es} (h : Wr (evalE t call e env st) fun d s => ∃ i, d = .int i ∧ Wr (evalIs t call es env s) fun ds s => QL (.int i :: ds) s) : Wr (evalIs t call (.cons e es) env st) QL := by
 rw [evalIs]
 refine wr_bind (h.imp fun d s h => ?_)
 obtain ⟨i, rfl, h⟩ := h
 exact wr_bind (h.imp fun ds s h => wr_ok h)
theorem w_tup {es : Es} (h : Wr (evalEs t call es env st) fun ds s => ds.length ≤ sizeLine ∧ Q (.tup ds) s) : Wr (evalE t call (.tupE es) env st) Q := by
 rw [evalE]
 refine wr_bind (h.imp fun ds s h => ?_)
 rw [if_pos h.1]; exact wr_ok h.2
theorem w_lst {es : Es} (h : Wr (evalEs t call es env st) fun ds s => ds.length ≤ sizeLine ∧ Q (.loc s.length) (s ++ [.lst ds])) : Wr (evalE t call (.lstE es) env st) Q := by
 rw [evalE]
 refine wr_bind (h.imp fun ds s h => ?_)
 rw [if_pos h.1]; exact wr_ok h.2
theorem w_op {o : Op} {a b : E} (h : Wr (evalE t call a env st) fun x s => Wr (evalE t call b env s) fun y s => Wr (opD o x y s) Q) : Wr (evalE t call (.op o a b) env st) Q := by
 rw [evalE]
 exact wr_bind (h.imp fun _ _ h => wr_bind h)
theorem w_neg {a : E} (h : Wr (evalE t call a env st) fun x s => ∃ i, x = .int i ∧ Q (.int (-i)) s) : Wr (evalE t call (.neg a) env st) Q := by
 rw [evalE]
 refine wr_bind (h.imp fun _ _ h => ?_)
 obtain ⟨i, rfl, h⟩ := h
 exact wr_ok h
theorem w_cm {o : Cm} {a b : E} (h : Wr (evalE t call a env st) fun x s => Wr (evalE t call b env s) fun y s => Wr (cmD o x y s) Q) : Wr (evalE t call (.cm o a b) env st) Q := by
 rw [evalE]
 exact wr_bind (h.imp fun _ _ h => wr_bind h)
theorem w_and {a b : E} (h : Wr (evalE t call a env st) fun x s => ∃ c, x = .bl c ∧ (c = true → Wr (evalE t call b env s) Q) ∧ (c = false → Q (.bl false) s)) : Wr (evalE t call (.andE a b) env st) Q := by
 rw [evalE]
 refine wr_bind (h.imp fun _ _ h => ?_)
 obtain ⟨c, rfl, h1, h2⟩ := h
 cases c with
 | true => exact h1 rfl
 | false => exact wr_ok (h2 rfl)
theorem w_or {a b : E} (h : Wr (evalE t call a env st) fun x s => ∃ c, x = .bl c ∧ (c = true → Q (.bl true) s) ∧ (c = false → Wr (evalE t call b env s) Q)) : Wr (evalE t call (.orE a b) env st) Q := by
 rw [evalE]
 refine wr_bind (h.imp fun _ _ h => ?_)
 obtain ⟨c, rfl, h1, h2⟩ := h
 cases c with
 | true => exact wr_ok (h1 rfl)
 | false => exact h2 rfl
theorem w_not {a : E} (h : Wr (evalE t call a env st) fun x s => ∃ c, x = .bl c ∧ Q (.bl (!c)) s) : Wr (evalE t call (.notE a) env st) Q := by
 rw [evalE]
 refine wr_bind (h.imp fun _ _ h => ?_)
 obtain ⟨c, rfl, h1⟩ := h
 exact wr_ok h1
theorem w_ifE {c a b : E} (h : Wr (evalT t call c env st) fun x s => (x = true → Wr (evalE t call a env s) Q) ∧ (x = false → Wr (evalE t call b env s) Q)) : Wr (evalE t call (.ifE c a b) env st) Q := by
 rw [evalE]
 refine wr_bind (h.imp fun x _ h => ?_)
 cases x with
 | true => exact h.1 rfl
 | false => exact h.2 rfl
theorem w_call {f : Nat} {es : Es} {dv : List D} (h : Wr (evalEs t call es env st) fun ds s => Wr (call f (ds ++ dv) s) Q) : Wr (evalE t call (.call f es dv) env st) Q := by
 rw [evalE]; exact wr_bind h
theorem w_bt {f : Bt} {es : Es} (h : Wr (evalEs t call es env st) fun ds s => Wr (btD f ds s) Q) : Wr (evalE t call (.bt f es) env st) Q := by
 rw [evalE]; exact wr_bind h
theorem w_ix {a b : E} (h : Wr (evalE t call a env st) fun x s => Wr (evalE t call b env s) fun y s => Wr (ixD x y s) Q) : Wr (evalE t call (.ix a b) env st) Q := by
 rw [evalE]
 exact wr_bind (h.imp fun _ _ h => wr_bind h)
theorem w_isi {a : E} {ty : Ty} (h : Wr (evalE t call a env st) fun x s => ∃ u c, tyOf s x = some u ∧ subT t u ty = some c ∧ Q (.bl c) s) : Wr (evalE t call (.isi a ty) env st) Q := by
 rw [evalE]
 refine wr_bind (h.imp fun x s h => ?_)
 obtain ⟨u, c, h1, h2, h3⟩ := h
 rw [h1, Option.bind_some, h2]; exact wr_ok h3
theorem w_dnew (h : Q (.loc st.length) (st ++ [.dct []])) : Wr (evalE t call .dnew env st) Q := by rw [evalE]; exact wr_ok h
theorem w_dnewN (h : Q (.loc st.length) (st ++ [.dcn []])) : Wr (evalE t call .dnewN env st) Q := by rw [evalE]; exact wr_ok h
theorem w_sl {k : Nat} {a : E} {es : Es} (h : Wr (evalE t call a env st) fun x s => Wr (evalIs t call es env s) fun ds s => Wr (slD k x ds s) Q) : Wr (evalE t call (.sl k a es) env st) Q := by
 rw [evalE]
 exact wr_bind (h.imp fun _ _ h => wr_bind h)
theorem w_chn {c1 c2 : Cm} {a b c : E} (h : Wr (evalE t call a env st) fun x s => Wr (evalE t call b env s) fun y s => Wr (cmD c1 x y s) fun z s => ∃ v, z = .bl v ∧ (v = true → Wr (evalE t call c env s) fun w s => Wr (cmD c2 y w s) Q) ∧ (v = false → Q (.bl false) s)) : Wr (evalE t call (.chn c1 c2 a b c) env st) Q := by
 rw [evalE]
 refine wr_bind (h.imp fun x _ h => wr_bind (h.imp fun y _ h => wr_bind (h.imp fun z s h => ?_)))
 obtain ⟨v, rfl, h1, h2⟩ := h
 cases v with
 | true => exact wr_bind (h1 rfl)
 | false => exact wr_ok (h2 rfl)
theorem w_fld {c : Nat} {o : E} {f : Str} (h : Wr (evalE t call o env st) fun x s => ∃ n fs d, x = .loc n ∧ s[n]? = some (.ins c fs) ∧ fs.lookup f = some d ∧ Q d s) : Wr (evalE t call (.fld c o f) env st) Q := by
 rw [evalE]
 refine wr_bind (h.imp fun x s h => ?_)
 obtain ⟨n, fs, d, rfl, h1, h2, h3⟩ := h
 simp only [h1, h2, if_true]
 exact wr_ok h3
theorem w_mk {c f : Nat} {es : Es} (h : Wr (evalEs t call es env st) fun ds s => Wr (call f (.loc s.length :: ds) (s ++ [.ins c []])) fun r s' => r = .non ∧ Q (.loc s.length) s') : Wr (evalE t call (.mk c f es) env st) Q := by
 rw [evalE]
 refine wr_bind (h.imp fun ds s h => wr_bind (h.imp fun r s' h => ?_))
 obtain ⟨rfl, h⟩ := h
 exact wr_ok h
theorem w_meth {c f : Nat} {m : Str} {o : E} {es : Es} (h : Wr (evalE t call o env st) fun x s => ∃ n fs, x = .loc n ∧ s[n]? = some (.ins c fs) ∧ fs.lookup m = none ∧ Wr (evalEs t call es env s) fun ds s => Wr (call f (.loc n :: ds) s) Q) : Wr (evalE t call (.meth c f m o es) env st) Q := by
 rw [evalE]
 refine wr_bind (h.imp fun x s h => ?_)
 obtain ⟨n, fs, rfl, h1, h2, h3⟩ := h
 simp only [h1, h2, and_self, if_true]
 exact wr_bind h3
theorem w_mt {m : Mt} {o : E} {es : Es} (h : Wr (evalE t call o env st) fun x s => rdy m s x = true ∧ Wr (evalEs t call es env s) fun ds s => Wr (mtD m x ds s) Q) : Wr (evalE t call (.mt m o es) env st) Q := by
 rw [evalE]
 refine wr_bind (h.imp fun x s h => ?_)
 rw [if_pos h.1]; exact wr_bind h.2
theorem wt_and {a b : E} (h : Wr (evalT t call a env st) fun x s => (x = true → Wr (evalT t call b env s) QB) ∧ (x = false → QB false s)) : Wr (evalT t call (.andE a b) env st) QB := by
 rw [evalT]
 refine wr_bind (h.imp fun x _ h => ?_)
 cases x with
 | true => exact h.1 rfl
 | false => exact wr_ok (h.2 rfl)
theorem wt_or {a b : E} (h : Wr (evalT t call a env st) fun x s => (x = true → QB true s) ∧ (x = false → Wr (evalT t call b env s) QB)) : Wr (evalT t call (.orE a b) env st) QB := by
 rw [evalT]
 refine wr_bind (h.imp fun x _ h => ?_)
 cases x with
 | true => exact wr_ok (h.1 rfl)
 | false => exact h.2 rfl
theorem wt_not {a : E} (h : Wr (evalT t call a env st) fun x s => QB (!x) s) : Wr (evalT t call (.notE a) env st) QB := by
 rw [evalT]
 exact wr_bind (h.imp fun x _ h => wr_ok h)
theorem wt_cm {o : Cm} {a b : E} (h : Wr (evalE t call a env st) fun x s => Wr (evalE t call b env s) fun y s => Wr (cmD o x y s) fun d s => ∃ c, d = .bl c ∧ QB c s) : Wr (evalT t call (.cm o a b) env st) QB := by
 rw [evalT]
 refine wr_bind (h.imp fun _ _ h => wr_bind (h.imp fun _ _ h => wr_bind (h.imp fun d s h => ?_)))
 obtain ⟨c, rfl, h⟩ := h
 exact wr_ok h
theorem wt_call {f : Nat} {es : Es} {dv : List D} (h : Wr (evalEs t call es env st) fun ds s => Wr (call f (ds ++ dv) s) fun d s => ∃ c, truth s d = some c ∧ QB c s) : Wr (evalT t call (.call f es dv) env st) QB := by
 rw [evalT]
 refine wr_bind (h.imp fun _ _ h => wr_bind (h.imp fun d s h => ?_))
 obtain ⟨c, h1, h⟩ := h
 simp only [h1]
 exact wr_ok h
theorem wt_bt {f : Bt} {es : Es} (h : Wr (evalEs t call es env st) fun ds s => Wr (btD f ds s) fun d s => ∃ c, truth s d = some c ∧ QB c s) : Wr (evalT t call (.bt f es) env st) QB := by
 rw [evalT]
 refine wr_bind (h.imp fun _ _ h => wr_bind (h.imp fun d s h => ?_))
 obtain ⟨c, h1, h⟩ := h
 simp only [h1]
 exact wr_ok h
theorem wt_ix {a b : E} (h : Wr (evalE t call a env st) fun x s => Wr (evalE t call b env s) fun y s => Wr (ixD x y s) fun d s => ∃ c, truth s d = some c ∧ QB c s) : Wr (evalT t call (.ix a b) env st) QB := by
 rw [evalT]
 refine wr_bind (h.imp fun _ _ h => wr_bind (h.imp fun _ _ h => wr_bind (h.imp fun d s h => ?_)))
 obtain ⟨c, h1, h⟩ := h
 simp only [h1]
 exact wr_ok h
theorem wt_isi {a : E} {ty : Ty} (h : Wr (evalE t call a env st) fun x s => ∃ u c, tyOf s x = some u ∧ subT t u ty = some c ∧ QB c s) : Wr (evalT t call (.isi a ty) env st) QB := by
 rw [evalT]
 refine wr_bind (h.imp fun x s h => ?_)
 obtain ⟨u, c, h1, h2, h3⟩ := h
 rw [h1, Option.bind_some, h2]; exact wr_ok h3
theorem wt_chn {c1 c2 : Cm} {a b c : E} (h : Wr (evalE t call a env st) fun x s => Wr (evalE t call b env s) fun y s => Wr (cmD c1 x y s) fun z s => ∃ v, z = .bl v ∧ (v = true → Wr (evalE t call c env s) fun w s => Wr (cmD c2 y w s) fun d s => ∃ c, d = .bl c ∧ QB c s) ∧ (v = false → QB false s)) : Wr (evalT t call (.chn c1 c2 a b c) env st) QB := by
 rw [evalT]
 refine wr_bind (h.imp fun x _ h => wr_bind (h.imp fun y _ h => wr_bind (h.imp fun z s h => ?_)))
 obtain ⟨v, rfl, h1, h2⟩ := h
 cases v with
 | true =>
  refine wr_bind ((h1 rfl).imp fun _ _ h => wr_bind (h.imp fun d s h => ?_))
  obtain ⟨c, rfl, h⟩ := h
  exact wr_ok h
 | false => exact wr_ok (h2 rfl)
theorem wi_nil (h : QB true st) : Wr (evalIfs t call .nil env st) QB := by rw [evalIfs]; exact wr_ok h
theorem wi_cons {c : E} {r : Es} (h : Wr (evalT t call c env st) fun x s => (x = true → Wr (evalIfs t call r env s) QB) ∧ (x = false → QB false s)) : Wr (evalIfs t call (.cons c r) env st) QB := by
 rw [evalIfs]
 refine wr_bind (h.imp fun x s h => ?_)
 cases x with
 | true => exact h.1 rfl
 | false => exact wr_ok (h.2 rfl)
def Kt (t : Nat → Ty → Option Bool) (call : Or) (F : Nat) (r : Ss) (Q : Fl → Sto → Prop) (f : Fl) (s : Sto) : Prop := match f with
 | .next env' => Wr (execSs t call F r env' s) Q
 | f => Q f s
theorem ws_nil (h : QF (.next env) st) : Wr (execSs t call F .nil env st) QF := ⟨_, _, x_nil, h⟩
theorem ws_cons {c : S} {r : Ss} (h : Wr (execS t call F c env st) (Kt t call F r QF)) : Wr (execSs t call F (.cons c r) env st) QF := by
 rw [x_cons]
 refine wr_bind (h.imp fun f s h => ?_)
 cases f <;> first | exact h | exact wr_ok h
theorem k_next {r : Ss} (h : Wr (execSs t call F r env st) QF) : Kt t call F r QF (.next env) st := h
theorem k_ret {r : Ss} {d : D} (h : QF (.ret d) st) : Kt t call F r QF (.ret d) st := h
theorem ws_set {i : Nat} {e : E} (h : Wr (evalE t call e env st) fun d s => i < env.length ∧ QF (.next (env.set i (some d))) s) : Wr (execS t call F (.set i e) env st) QF := by
 rw [x_set]
 refine wr_bind (h.imp fun d s h => ?_)
 rw [if_pos h.1]; exact wr_ok h.2
theorem ws_unp {is : List Nat} {e : E} (h : Wr (evalE t call e env st) fun d s => ∃ env', store is false d env = some env' ∧ QF (.next env') s) : Wr (execS t call F (.unp is e) env st) QF := by
 rw [x_unp]
 refine wr_bind (h.imp fun d s h => ?_)
 obtain ⟨env', h1, h⟩ := h
 simp only [h1]; exact wr_ok h
theorem ws_unpL {is : List Nat} {e : E} (h : Wr (evalE t call e env st) fun d s => ∃ n ds env', d = .loc n ∧ lstOf s n = some ds ∧ setAll is ds env = some env' ∧ QF (.next env') s) : Wr (execS t call F (.unpL is e) env st) QF := by
 rw [execS]
 refine wr_bind (h.imp fun d s h => ?_)
 obtain ⟨n, ds, env', rfl, h1, h2, h⟩ := h
 simp only [h1, h2]; exact wr_ok h
theorem ws_par {i j : Nat} {a b : E} (h : Wr (evalE t call a env st) fun x s => Wr (evalE t call b env s) fun y s => (i < env.length ∧ j < env.length) ∧ QF (.next ((env.set i (some x)).set j (some y))) s) : Wr (execS t call F (.par i j a b) env st) QF := by
 rw [x_par]
 refine wr_bind (h.imp fun d s h => wr_bind (h.imp fun d s h => ?_))
 rw [if_pos h.1]; exact wr_ok h.2
theorem ws_aug {i : Nat} {o : Op} {e : E} {x : Int} (hx : getV env i = some (.int x)) (h : Wr (evalE t call e env st) fun y s => ∃ j, y = .int j ∧ Wr (opD o (.int x) (.int j) s) fun z s => i < env.length ∧ QF (.next (env.set i (some z))) s) : Wr (execS t call F (.aug i o e) env st) QF := by
 rw [execS, hx]
 refine wr_bind (h.imp fun d s h => ?_)
 obtain ⟨j, rfl, h⟩ := h
 refine wr_bind (h.imp fun d s h => ?_)
 rw [if_pos h.1]; exact wr_ok h.2
theorem ws_if {c : E} {a b : Ss} (h : Wr (evalT t call c env st) fun x s => (x = true → Wr (execSs t call F a env s) QF) ∧ (x = false → Wr (execSs t call F b env s) QF)) : Wr (execS t call F (.ifS c a b) env st) QF := by
 rw [x_if]
 refine wr_bind (h.imp fun x s h => ?_)
 cases x with
 | true => exact h.1 rfl
 | false => exact h.2 rfl
theorem ws_ret {e : E} (h : Wr (evalE t call e env st) fun d s => QF (.ret d) s) : Wr (execS t call F (.ret e) env st) QF := by
 rw [x_ret]; exact wr_bind (h.imp fun d s h => wr_ok h)
theorem ws_ex {e : E} (h : Wr (evalE t call e env st) fun d s => QF (.next env) s) : Wr (execS t call F (.ex e) env st) QF := by
 rw [x_ex]; exact wr_bind (h.imp fun d s h => wr_ok h)
theorem ws_setf {c : Nat} {o : E} {f : Str} {e : E} (h : Wr (evalE t call e env st) fun y s => Wr (evalE t call o env s) fun x s => ∃ n fs, x = .loc n ∧ s[n]? = some (.ins c fs) ∧ fs.length < 900 ∧ QF (.next env) (s.set n (.ins c (putFD f y fs)))) : Wr (execS t call F (.setf c o f e) env st) QF := by
 rw [execS]
 refine wr_bind (h.imp fun y s h => wr_bind (h.imp fun x s h => ?_))
 obtain ⟨n, fs, rfl, h1, h2, h3⟩ := h
 simp only [h1, h2, and_self, if_true]
 exact wr_ok h3
theorem ws_for {tg : List Nat} {one k : Bool} {it : E} {b : Ss} (h : Wr (evalE t call it env st) fun d s => ∃ xs p, walkOf k s d = some (xs, p) ∧ Wr (forLoop xs p (turn t call F tg one b) xs env s) QF) : Wr (execS t call F (.forS tg one k it b) env st) QF := by
 rw [x_for]
 refine wr_bind (h.imp fun d s h => ?_)
 obtain ⟨xs, p, h1, h⟩ := h
 simp only [h1]; exact h
theorem ws_forR {tg : List Nat} {es : Es} {b : Ss} (h : Wr (evalEs t call es env st) fun ds s => ∃ xs, rngOf ds = some xs ∧ Wr (forLoop xs none (turn t call F tg true b) xs env s) QF) : Wr (execS t call F (.forR tg es b) env st) QF := by
 rw [x_forR]
 refine wr_bind (h.imp fun d s h => ?_)
 obtain ⟨xs, h1, h⟩ := h
 simp only [h1]; exact h
theorem w_turn {tg : List Nat} {one : Bool} {b : Ss} {d : D} {env' : DD.Env} (h : store tg one d env = some env') (w : Wr (execSs t call F b env' st) QF) : Wr (turn t call F tg one b d env st) QF := by
 rw [turn_at h]; exact w
theorem w_loop {xs : List D} {p : Option Nat} {body : D → DD.Env → Sto → Res Fl} (J : Nat → DD.Env → Sto → Prop) (hs : ∀ i env st, J i env st → stays st p xs = true) (h0 : J 0 env st)
    (ht : ∀ (j : Nat) (d : D), xs[j]? = some d → ∀ env st, J j env st → Wr (body d env st) fun f s => ∃ env', f = .next env' ∧ J (j + 1) env' s)
    (q : ∀ env s, J xs.length env s → QF (.next env) s) : Wr (forLoop xs p body xs env st) QF := by
  obtain ⟨env', s, e, j⟩ := for_keep hs xs 0 env st h0 fun j d hd env st hj => by
    rw [Nat.zero_add] at hj
    obtain ⟨f, s, e, env', rfl, j⟩ := ht j d hd env st hj
    exact ⟨env', s, e, by rwa [Nat.zero_add]⟩
  rw [Nat.zero_add] at j
  exact ⟨_, _, e, q _ _ j⟩
theorem w_turnC {tg : List Nat} {one : Bool} {ifs : Es} {elt : E} {d : D} {env' : DD.Env} {QO : Option D → Sto → Prop} (h : store tg one d env = some env') (w : Wr (evalIfs t call ifs env' st) fun b s => (b = true → Wr (evalE t call elt env' s) fun y s => QO (some y) s) ∧ (b = false → QO none s)) : Wr (turnC t call tg one env ifs elt d st) QO := by
 unfold turnC
 simp only [h]
 refine wr_bind (w.imp fun b s h => ?_)
 cases b with
 | true => exact wr_bind ((h.1 rfl).imp fun y s h => wr_ok h)
 | false => exact wr_ok (h.2 rfl)
theorem w_comp {k nl : Nat} {one : Bool} {tg fv : List Nat} {it elt : E} {ifs : Es}
    (h : Wr (evalE t call it env st) fun d s => ∃ xs p, ∃ f : D → Option D, itOf k s d = some (xs, p) ∧ xs.length ≤ sizeLine ∧ (∀ s', Fr s s' → stays s' p xs = true) ∧
      (∀ d ∈ xs, ∀ s', Fr s s' → Wr (turnC t call tg one (envIn nl fv env) ifs elt d s') fun r s2 => r = f d ∧ Fr s' s2) ∧
      ∀ s', Fr s s' → s'[s.length]? = some (.lst (xs.filterMap f)) → Q (.loc s.length) s') : Wr (evalE t call (.comp k one nl tg fv it ifs elt) env st) Q := by
  obtain ⟨d, s, e, xs, p, f, hi, hl, hs, hb, q⟩ := h
  rw [e_compAt e hi]
  obtain ⟨s', e2, F, y⟩ := comp_fr (all := xs) (xs := xs) (p := p) (f := f) hl hs fun d hd s2 F => by
    obtain ⟨r, s3, e3, rfl, F3⟩ := hb d hd s2 F
    exact ⟨s3, e3, F3⟩
  rw [e2]
  exact wr_ok (q s' F y)
theorem compL_rel {all : List D} {p : Option Nat} {n0 : Nat} {body : D → Sto → Res (Option D)} {J : Nat → List D → Sto → Prop} (hs : ∀ i ys st, J i ys st → stays st p all = true) :
    ∀ (xs : List D) (i : Nat) (ys : List D) (st : Sto), J i ys st → st[n0]? = some (.lst ys) → ys.length + xs.length ≤ sizeLine →
    (∀ (j : Nat) (d : D), xs[j]? = some d → ∀ st ys, J (i + j) ys st → st[n0]? = some (.lst ys) → Wr (body d st) fun r s => s[n0]? = some (.lst ys) ∧ ((∃ y, r = some y ∧ J (i + j + 1) (ys ++ [y]) (s.set n0 (.lst (ys ++ [y])))) ∨ (r = none ∧ J (i + j + 1) ys s))) →
    ∃ st' ys', compLoop all p n0 body xs st = .ok () st' ∧ J (i + xs.length) ys' st' ∧ st'[n0]? = some (.lst ys')
  | [], i, ys, st, h, hy, _, _ => ⟨st, ys, by simp only [compLoop]; rw [if_pos (hs _ _ _ h)], h, hy⟩
  | d :: r, i, ys, st, h, hy, hl, hb => by
    obtain ⟨a, s1, e1, y1, g⟩ := hb 0 d rfl st ys h hy
    have hb' : ∀ (j : Nat) (d : D), r[j]? = some d → ∀ st ys, J (i + 1 + j) ys st → st[n0]? = some (.lst ys) → Wr (body d st) fun r s => s[n0]? = some (.lst ys) ∧ ((∃ y, r = some y ∧ J (i + 1 + j + 1) (ys ++ [y]) (s.set n0 (.lst (ys ++ [y])))) ∨ (r = none ∧ J (i + 1 + j + 1) ys s)) := fun j x hx st ys hj hy => by
      have := hb (j + 1) x (by simpa using hx) st ys (by rwa [show i + (j + 1) = i + 1 + j by omega]) hy
      rwa [show i + (j + 1) + 1 = i + 1 + j + 1 by omega] at this
    have hl2 : ys.length < sizeLine := by simp at hl; omega
    simp only [compLoop]
    rw [if_pos (hs _ _ _ h), e1]
    rcases g with ⟨y, rfl, g⟩ | ⟨rfl, g⟩
    · obtain ⟨s2, ys2, e2, j2, y2⟩ := compL_rel hs r (i + 1) (ys ++ [y]) _ g (set_at y1 _) (by simp at hl ⊢; omega) hb'
      refine ⟨s2, ys2, ?_, by rwa [show i + (d :: r).length = i + 1 + r.length by simp; omega], y2⟩
      simp only [y1, hl2, if_true]
      exact e2
    · obtain ⟨s2, ys2, e2, j2, y2⟩ := compL_rel hs r (i + 1) ys s1 g y1 (by simp at hl ⊢; omega) hb'
      exact ⟨s2, ys2, e2, by rwa [show i + (d :: r).length = i + 1 + r.length by simp; omega], y2⟩
theorem w_compR {k nl : Nat} {one : Bool} {tg fv : List Nat} {it elt : E} {ifs : Es}
    (h : Wr (evalE t call it env st) fun d s => ∃ xs p, ∃ J : Nat → List D → Sto → Prop, itOf k s d = some (xs, p) ∧ xs.length ≤ sizeLine ∧ (∀ i ys s', J i ys s' → stays s' p xs = true) ∧ J 0 [] (s ++ [.lst []]) ∧
      (∀ (j : Nat) (d : D), xs[j]? = some d → ∀ s1 ys, J j ys s1 → s1[s.length]? = some (.lst ys) → Wr (turnC t call tg one (envIn nl fv env) ifs elt d s1) fun r s2 => s2[s.length]? = some (.lst ys) ∧ ((∃ y, r = some y ∧ J (j + 1) (ys ++ [y]) (s2.set s.length (.lst (ys ++ [y])))) ∨ (r = none ∧ J (j + 1) ys s2))) ∧
      ∀ s' ys, J xs.length ys s' → s'[s.length]? = some (.lst ys) → Q (.loc s.length) s') : Wr (evalE t call (.comp k one nl tg fv it ifs elt) env st) Q := by
  obtain ⟨d, s, e, xs, p, J, hi, hl, hs, h0, hb, q⟩ := h
  rw [e_compAt e hi]
  obtain ⟨s', ys, e2, j2, y2⟩ := compL_rel (all := xs) (p := p) (n0 := s.length) (J := J) hs xs 0 [] (s ++ [.lst []]) h0 (gg0.trans rfl) (by simpa using hl) fun j d hd s1 ys hj hy => by
    rw [Nat.zero_add] at hj ⊢
    exact hb j d hd s1 ys hj hy
  rw [Nat.zero_add] at j2
  rw [e2]
  exact wr_ok (q s' ys j2 y2)
noncomputable def turnD (t : Nat → Ty → Option Bool) (call : Or) (tg : List Nat) (one : Bool) (env : DD.Env) (ifs : Es) (kx vx : E) (d : D) (st : Sto) : Res (Option (D × D)) := match store tg one d env with
 | some env' => (evalIfs t call ifs env' st).bind fun b st => if b then (evalE t call kx env' st).bind fun k st => (evalE t call vx env' st).bind fun y st => .ok (some (k, y)) st else .ok none st
 | none => .bad
theorem w_turnD {tg : List Nat} {one : Bool} {ifs : Es} {kx vx : E} {d : D} {env' : DD.Env} {QO : Option (D × D) → Sto → Prop} (h : store tg one d env = some env') (w : Wr (evalIfs t call ifs env' st) fun b s => (b = true → Wr (evalE t call kx env' s) fun k s => Wr (evalE t call vx env' s) fun y s => QO (some (k, y)) s) ∧ (b = false → QO none s)) : Wr (turnD t call tg one env ifs kx vx d st) QO := by
 unfold turnD
 simp only [h]
 refine wr_bind (w.imp fun b s h => ?_)
 cases b with
 | true => exact wr_bind ((h.1 rfl).imp fun k s h => wr_bind (h.imp fun y s h => wr_ok h))
 | false => exact wr_ok (h.2 rfl)
theorem dcomp_inv {all : List D} {p : Option Nat} {n0 : Nat} {body : D → Sto → Res (Option (D × D))} {f : D → Option (D × D)} {J : Sto → Prop} (hs : ∀ st, J st → stays st p all = true) (hset : ∀ st kvs, J st → J (st.set n0 (.dct kvs))) :
    ∀ (xs : List D) (kvs : List (D × D)) (st : Sto), J st → st[n0]? = some (.dct kvs) → kvs.length + xs.length ≤ sizeLine → (∀ d ∈ xs, ∀ k y, f d = some (k, y) → keyD k = true) →
    (∀ d ∈ xs, ∀ st kvs, J st → st[n0]? = some (.dct kvs) → ∃ st', body d st = .ok (f d) st' ∧ J st' ∧ st'[n0]? = some (.dct kvs)) →
    ∃ st', dcompLoop all p n0 body xs st = .ok () st' ∧ J st' ∧ st'[n0]? = some (.dct (dMerge kvs (xs.filterMap f)))
  | [], kvs, st, h, hy, _, _, _ => ⟨st, by simp only [dcompLoop]; rw [if_pos (hs _ h)], h, by simpa [dMerge] using hy⟩
  | d :: r, kvs, st, h, hy, hl, hk, hb => by
    obtain ⟨s1, e1, j1, y1⟩ := hb d List.mem_cons_self st kvs h hy
    simp only [dcompLoop]
    rw [if_pos (hs _ h), e1]
    have hl2 : kvs.length < sizeLine := by simp at hl; omega
    cases hf : f d with
    | none =>
      obtain ⟨s2, e2, j2, y2⟩ := dcomp_inv hs hset r kvs s1 j1 y1 (by simp at hl ⊢; omega) (fun x hx => hk x (List.mem_cons_of_mem _ hx)) fun x hx => hb x (List.mem_cons_of_mem _ hx)
      exact ⟨s2, e2, j2, by rw [List.filterMap_cons, hf]; exact y2⟩
    | some kv =>
      obtain ⟨k, y⟩ := kv
      have hlen : (dPut kvs k y).length ≤ kvs.length + 1 := by unfold dPut; split <;> simp
      obtain ⟨s2, e2, j2, y2⟩ := dcomp_inv hs hset r (dPut kvs k y) (s1.set n0 (.dct (dPut kvs k y))) (hset _ _ j1) (set_at y1 _) (by simp at hl ⊢; omega) (fun x hx => hk x (List.mem_cons_of_mem _ hx)) fun x hx => hb x (List.mem_cons_of_mem _ hx)
      refine ⟨s2, ?_, j2, by rw [List.filterMap_cons, hf]; simpa [dMerge] using y2⟩
      simp only [y1, hl2, hk d List.mem_cons_self k y hf, and_self, if_true]
      exact e2
theorem w_dcomp {k nl : Nat} {one : Bool} {tg fv : List Nat} {it kx vx : E} {ifs : Es}
    (h : Wr (evalE t call it env st) fun d s => ∃ xs p, ∃ f : D → Option (D × D), itOf k s d = some (xs, p) ∧ xs.length ≤ sizeLine ∧ (∀ d ∈ xs, ∀ k y, f d = some (k, y) → keyD k = true) ∧ (∀ s', Fr s s' → stays s' p xs = true) ∧
      (∀ d ∈ xs, ∀ s', Fr s s' → Wr (turnD t call tg one (envIn nl fv env) ifs kx vx d s') fun r s2 => r = f d ∧ Fr s' s2) ∧
      ∀ s', Fr s s' → s'[s.length]? = some (.dct (dMerge [] (xs.filterMap f))) → Q (.loc s.length) s') : Wr (evalE t call (.dcomp k one nl tg fv it ifs kx vx) env st) Q := by
  obtain ⟨d, s, e, xs, p, f, hi, hl, hk, hs, hb, q⟩ := h
  rw [evalE, e]
  simp only [bind_ok, hi]
  obtain ⟨s', e2, F, y⟩ := dcomp_inv (all := xs) (p := p) (n0 := s.length) (body := turnD t call tg one (envIn nl fv env) ifs kx vx) (f := f) (J := Fr s) hs (fun s2 ys h => h.set (Nat.le_refl _) _) xs [] (s ++ [.dct []]) (.app _) (by simp) (by simpa using hl) hk (fun d hd s2 ys hJ hn => by
    obtain ⟨r, s3, e3, rfl, F3⟩ := hb d hd s2 hJ
    exact ⟨s3, e3, hJ.trans F3, F3.at hn⟩)
  show Wr ((dcompLoop xs p s.length (turnD t call tg one (envIn nl fv env) ifs kx vx) xs (s ++ [.dct []])).bind fun _ st' => .ok (.loc s.length) st') Q
  rw [e2]
  exact wr_ok (q s' F y)
def Kf (Q : D → Sto → Prop) (f : Fl) (s : Sto) : Prop := match f with
 | .next _ => Q .non s
 | .ret d => Q d s
 | _ => False
theorem kf_next (h : Q .non st) : Kf Q (.next env) st := h
theorem kf_ret {d : D} (h : Q d st) : Kf Q (.ret d) st := h
theorem w_fn {fns : List Fn} {n f np nl : Nat} {b : Ss} {args : List D} (env : DD.Env) (h : fns[f]? = some ⟨np, nl, b⟩) (hl : args.length = np) (hn : np ≤ nl) (he : args.map some ++ List.replicate (nl - np) none = env) (w : Wr (execSs t (callD t fns F n) F b env st) (Kf Q)) : Wr (callD t fns F (n + 1) f args st) Q := by
  show Wr (match fns[f]? with
      | some fn => if args.length = fn.np ∧ fn.np ≤ fn.nl then fin (execSs t (callD t fns F n) F fn.body (args.map some ++ List.replicate (fn.nl - fn.np) none) st) else .bad
      | none => .bad) Q
  rw [h]; simp only; rw [if_pos ⟨hl, hn⟩, he]
  unfold fin
  refine wr_bind (w.imp fun f s h => ?_)
  cases f with
  | next e => exact wr_ok h
  | ret d => exact wr_ok h
  | brk e => exact h.elim
  | cont e => exact h.elim
theorem wp_nt {A B : Prop} (h : B) : (((!true) = true → A) ∧ ((!true) = false → B)) := wp_f h
theorem wp_nf {A B : Prop} (h : A) : (((!false) = true → A) ∧ ((!false) = false → B)) := wp_t h
end
section
variable {st : Sto} {Q : D → Sto → Prop} {i j : Int} {n m : Nat} {xs ys : List D} {kvs : List (D × D)} {d k : D}
theorem r_add (h : Q (.int (i + j)) st) : Wr (opD .add (.int i) (.int j) st) Q := ⟨_, _, o_add, h⟩
theorem r_sub (h : Q (.int (i - j)) st) : Wr (opD .sub (.int i) (.int j) st) Q := ⟨_, _, o_sub, h⟩
theorem r_mulL (g : smallI i) (h : Q (.int (i * j)) st) : Wr (opD .mul (.int i) (.int j) st) Q := ⟨_, _, o_mul (.inl g), h⟩
theorem r_mulR (g : smallI j) (h : Q (.int (i * j)) st) : Wr (opD .mul (.int i) (.int j) st) Q := ⟨_, _, o_mul (.inr (.inl g)), h⟩
theorem r_fdiv (g : divOk j) (h : Q (.int (i.fdiv j)) st) : Wr (opD .fdiv (.int i) (.int j) st) Q := ⟨_, _, o_fdiv g, h⟩
theorem r_mod (g : j ≠ 0) (h : Q (.int (i.fmod j)) st) : Wr (opD .mod (.int i) (.int j) st) Q := ⟨_, _, o_mod g, h⟩
theorem r_pow (g : powOk i j) (h : Q (.int (i ^ j.toNat)) st) : Wr (opD .pow (.int i) (.int j) st) Q := ⟨_, _, o_pow g, h⟩
theorem r_addL (hn : st[n]? = some (.lst xs)) (hm : st[m]? = some (.lst ys)) (g : xs.length + ys.length ≤ sizeLine) (h : Q (.loc st.length) (st ++ [.lst (xs ++ ys)])) : Wr (opD .add (.loc n) (.loc m) st) Q := ⟨_, _, o_addL hn hm g, h⟩
theorem r_eqi (h : Q (.bl (decide (i = j))) st) : Wr (cmD .eq (.int i) (.int j) st) Q := ⟨_, _, m_eqi, h⟩
theorem r_nei (h : Q (.bl (!decide (i = j))) st) : Wr (cmD .ne (.int i) (.int j) st) Q := ⟨_, _, m_nei, h⟩
theorem r_lt (h : Q (.bl (decide (i < j))) st) : Wr (cmD .lt (.int i) (.int j) st) Q := ⟨_, _, m_lt, h⟩
theorem r_le (h : Q (.bl (decide (i ≤ j))) st) : Wr (cmD .le (.int i) (.int j) st) Q := ⟨_, _, m_le, h⟩
theorem r_gt (h : Q (.bl (decide (j < i))) st) : Wr (cmD .gt (.int i) (.int j) st) Q := ⟨_, _, m_gt, h⟩
theorem r_ge (h : Q (.bl (decide (j ≤ i))) st) : Wr (cmD .ge (.int i) (.int j) st) Q := ⟨_, _, m_ge, h⟩
theorem r_isN (h : Q (.bl (decide (d = .non))) st) : Wr (cmD .isN d .non st) Q := ⟨_, _, by simp only [cmD], h⟩
theorem r_notN (h : Q (.bl (!decide (d = .non))) st) : Wr (cmD .notN d .non st) Q := ⟨_, _, by simp only [cmD], h⟩
theorem r_inL {a : D} (h1 : lstOf st n = some xs) (ha : okN 40 a = true) (hx : xs.all (okN 40) = true) (h : Q (.bl (decide (a ∈ xs))) st) : Wr (cmD .inL a (.loc n) st) Q := ⟨_, _, m_inL h1 ha hx, h⟩
theorem r_notInL {a : D} (h1 : lstOf st n = some xs) (ha : okN 40 a = true) (hx : xs.all (okN 40) = true) (h : Q (.bl (!decide (a ∈ xs))) st) : Wr (cmD .notIn a (.loc n) st) Q := ⟨_, _, m_notInL h1 ha hx, h⟩
theorem r_ixL (g : lstOf st n = some xs) (e : L2.atI xs i = some d) (h : Q d st) : Wr (ixD (.loc n) (.int i) st) Q := ⟨_, _, i_atL g e, h⟩
theorem r_ixD (g : st[n]? = some (.dct kvs)) (hk : keyD k = true) (e : dLook kvs k = some d) (h : Q d st) : Wr (ixD (.loc n) k st) Q := ⟨_, _, by simp only [ixD, dctOf, g, hk, if_true, e], h⟩
theorem r_lenT (h : Q (.int xs.length) st) : Wr (btD .lenB [.tup xs] st) Q := ⟨_, _, b_lenT, h⟩
theorem r_lenL (g : lstOf st n = some xs) (h : Q (.int xs.length) st) : Wr (btD .lenB [.loc n] st) Q := ⟨_, _, b_lenL g, h⟩
theorem r_intB {b : Bool} (h : Q (.int (if b then 1 else 0)) st) : Wr (btD .intB [.bl b] st) Q := ⟨_, _, b_intb, h⟩
theorem r_listB (g : seqOf st d = some xs) (h : Q (.loc st.length) (st ++ [.lst xs])) : Wr (btD .listB [d] st) Q := ⟨_, _, by simp only [btD, g], h⟩
theorem r_min (h : Q (.int (if j < i then j else i)) st) : Wr (btD .minB [.int i, .int j] st) Q := ⟨_, _, by simp only [btD], h⟩
theorem r_max (h : Q (.int (if j > i then j else i)) st) : Wr (btD .maxB [.int i, .int j] st) Q := ⟨_, _, by simp only [btD], h⟩
theorem r_append (g : st[n]? = some (.lst xs)) (hl : xs.length < sizeLine) (h : Q .non (st.set n (.lst (xs ++ [d])))) : Wr (mtD .append (.loc n) [d] st) Q := ⟨_, _, by simp only [mtD, g]; rw [if_pos hl], h⟩
theorem r_upd {more : List (D × D)} (g : st[n]? = some (.dct kvs)) (g2 : st[m]? = some (.dct more)) (hl : n ≠ m ∧ kvs.length + more.length ≤ sizeLine) (h : Q .non (st.set n (.dct (dMerge kvs more)))) : Wr (mtD .upd (.loc n) [.loc m] st) Q := ⟨_, _, by simp only [mtD, dctOf, g, g2]; rw [if_pos hl], h⟩
theorem r_slL {k : Nat} {ds : List D} {lo hi : Option Int} (e : slParts k ds = some (lo, hi)) (g : lstOf st n = some xs) (h : Q (.loc st.length) (st ++ [.lst (cutD xs lo hi)])) : Wr (slD k (.loc n) ds st) Q := ⟨_, _, by simp only [slD, e, g], h⟩
theorem rdy_lst {m : Mt} (g : st[n]? = some (.lst xs)) (hm : rdy m st (.loc n) = isLst st (.loc n) := by rfl) : rdy m st (.loc n) = true := by rw [hm]; simp only [isLst, g]
end
end DD
namespace DD
open PySem L2
section
variable {t : Nat → Ty → Option Bool} {call : Or} {F : Nat} {env : DD.Env} {st : Sto} {Q : D → Sto → Prop} {QF : Fl → Sto → Prop}
theorem wl_while {test : DD.Env → Sto → Res Bool} {body : DD.Env → Sto → Res Fl} (J : Nat → DD.Env → Sto → Prop)
    (ht : ∀ m env st, J m env st → Wr (test env st) fun x s => (x = true → Wr (body env s) fun f s' => ∃ env' m', f = .next env' ∧ m' < m ∧ J m' env' s') ∧ (x = false → QF (.next env) s)) :
    ∀ (g m : Nat) (env : DD.Env) (st : Sto), m < g → J m env st → Wr (whileLoop test body g env st) QF
  | 0, m, env, st, h, _ => by omega
  | g + 1, m, env, st, h, j => by
    simp only [whileLoop]
    refine wr_bind ((ht m env st j).imp fun x s h2 => ?_)
    cases x with
    | false => exact wr_ok (h2.2 rfl)
    | true =>
      refine wr_bind ((h2.1 rfl).imp fun f s' h3 => ?_)
      obtain ⟨env', m', rfl, hm, j'⟩ := h3
      exact wl_while J ht g m' env' s' (by omega) j'
theorem ws_while {c : E} {b : Ss} (J : Nat → DD.Env → Sto → Prop) (m : Nat) (hm : m < F) (h0 : J m env st)
    (ht : ∀ m env st, J m env st → Wr (evalT t call c env st) fun x s => (x = true → Wr (execSs t call F b env s) fun f s' => ∃ env' m', f = .next env' ∧ m' < m ∧ J m' env' s') ∧ (x = false → QF (.next env) s)) : Wr (execS t call F (.whileS c b) env st) QF := by
  rw [x_while]
  exact wl_while J ht F m env st hm h0
noncomputable def turnE (t : Nat → Ty → Option Bool) (call : Or) (F : Nat) (i : Nat) (tg : List Nat) (one : Bool) (b : Ss) (d : D) (env : DD.Env) (st : Sto) : Res Fl := match storeE i tg one d env with | some env' => execSs t call F b env' st | none => .bad
theorem ws_forE {i : Nat} {tg : List Nat} {one : Bool} {it : E} {b : Ss} (h : Wr (evalE t call it env st) fun d s => ∃ xs p, walkOf false s d = some (xs, p) ∧ Wr (forLoop xs p (turnE t call F i tg one b) (enumD 0 xs) env s) QF) : Wr (execS t call F (.forE i tg one it b) env st) QF := by
 rw [execS]
 refine wr_bind (h.imp fun d s h => ?_)
 obtain ⟨xs, p, h1, h⟩ := h
 simp only [h1]; exact h
theorem w_turnE {i : Nat} {tg : List Nat} {one : Bool} {b : Ss} {d : D} {env' : DD.Env} (h : storeE i tg one d env = some env') (w : Wr (execSs t call F b env' st) QF) : Wr (turnE t call F i tg one b d env st) QF := by
 unfold turnE; rw [h]; exact w
theorem w_loopE {all xs : List D} {p : Option Nat} {body : D → DD.Env → Sto → Res Fl} (J : Nat → DD.Env → Sto → Prop) (hs : ∀ i env st, J i env st → stays st p all = true) (h0 : J 0 env st)
    (ht : ∀ (j : Nat) (d : D), xs[j]? = some d → ∀ env st, J j env st → Wr (body d env st) fun f s => ∃ env', f = .next env' ∧ J (j + 1) env' s)
    (q : ∀ env s, J xs.length env s → QF (.next env) s) : Wr (forLoop all p body xs env st) QF := by
  obtain ⟨env', s, e, j⟩ := for_keep hs xs 0 env st h0 fun j d hd env st hj => by
    rw [Nat.zero_add] at hj
    obtain ⟨f, s, e, env', rfl, j⟩ := ht j d hd env st hj
    exact ⟨env', s, e, by rwa [Nat.zero_add]⟩
  rw [Nat.zero_add] at j
  exact ⟨_, _, e, q _ _ j⟩
theorem en_get : ∀ (xs : List D) (k i : Nat), (enumD k xs)[i]? = (xs[i]?).map fun d => .tup [.int ((k + i : Nat) : Int), d]
 | [], k, i => by simp [enumD]
 | x :: r, k, 0 => by simp [enumD]
 | x :: r, k, i + 1 => by
  simp only [enumD, List.getElem?_cons_succ]
  rw [en_get r (k + 1) i, show k + 1 + i = k + (i + 1) by omega]
theorem en_len : ∀ (xs : List D) (k : Nat), (enumD k xs).length = xs.length
 | [], k => rfl
 | x :: r, k => by simp [enumD, en_len r]
theorem ws_dput {o k v : E} (h : Wr (evalE t call v env st) fun y s => Wr (evalE t call o env s) fun x s => Wr (evalE t call k env s) fun kk s => ∃ n kvs, x = .loc n ∧ s[n]? = some (.dct kvs) ∧ keyD kk = true ∧ kvs.length < sizeLine ∧ QF (.next env) (s.set n (.dct (dPut kvs kk y)))) : Wr (execS t call F (.dput o k v) env st) QF := by
 rw [execS]
 refine wr_bind (h.imp fun y s h => wr_bind (h.imp fun x s h => wr_bind (h.imp fun kk s h => ?_)))
 obtain ⟨n, kvs, rfl, h1, h2, h3, h4⟩ := h
 simp only [dctOf, h1, h2, h3, and_self, if_true]
 exact wr_ok h4
end
section
variable {st : Sto} {Q : D → Sto → Prop} {i j : Int} {n m : Nat} {xs ys : List D} {kvs : List (D × D)} {d k : D}
theorem r_put1 (g : st[n]? = some (.dct [])) (hk : keyD k = true) (h : Q (.loc n) (st.set n (.dct [(k, d)]))) : Wr (mtD .put1 (.loc n) [k, d] st) Q := ⟨_, _, by simp only [mtD, dctOf, g, hk, and_self, if_true], h⟩
theorem r_get2 (g : st[n]? = some (.dct kvs)) (hk : keyD k = true) (h : Q ((dLook kvs k).getD d) st) : Wr (mtD .get (.loc n) [k, d] st) Q := ⟨_, _, by simp only [mtD, dctOf, g]; rw [if_pos hk], h⟩
theorem r_sdefS {x : D} (g : st[n]? = some (.dct kvs)) (hk : keyD k = true) (hl : kvs.length < sizeLine) (e : dLook kvs k = some d) (h : Q d st) : Wr (mtD .sdef (.loc n) [k, x] st) Q := ⟨_, _, by simp only [mtD, dctOf, g, hk, hl, and_self, if_true, e], h⟩
theorem r_sdefN {x : D} (g : st[n]? = some (.dct kvs)) (hk : keyD k = true) (hl : kvs.length < sizeLine) (e : dLook kvs k = none) (h : Q x (st.set n (.dct (dPut kvs k x)))) : Wr (mtD .sdef (.loc n) [k, x] st) Q := ⟨_, _, by simp only [mtD, dctOf, g, hk, hl, and_self, if_true, e], h⟩
theorem r_notInDct (g : st[n]? = some (.dct kvs)) (hk : keyD k = true) (h : Q (.bl (!(dLook kvs k).isSome)) st) : Wr (cmD .notIn k (.loc n) st) Q := ⟨_, _, by simp only [cmD, inD, dctOf, g, hk, if_true], h⟩
theorem rdy_dct {m : Mt} (g : st[n]? = some (.dct kvs)) (hm : rdy m st (.loc n) = (dctOf st n).isSome := by rfl) : rdy m st (.loc n) = true := by rw [hm]; simp only [dctOf, g, Option.isSome_some]
end
end DD
namespace DD
open PySem PySem.Spec L2
open PyProof.Rows hiding St RelV
variable {g : G} {X : Cx} {a b c : Expr} {a' b' c' : E} {pos apos cpos : Pos} {rest es : List Expr} {es' : Es} {F : Nat}
theorem sd_disp1 {k v : Expr} {k' v' : E} (hk : Sd g X k k') (hv : Sd g X v v') : Sd g X (.Dict [some k] [v] pos) (.mt .put1 .dnew (.cons k' (.cons v' .nil))) :=
 pe_imp (pe_disp (pps_cons hk hv pps_nil) rfl rfl (by simp) (by simp)) fun sg H Q q => by
  obtain ⟨rho, st, env, s, n, q⟩ := q
  intro p hp
  simp only [evalE, bind_ok] at q
  have e0 : dctOf (st ++ [.dct []]) st.length = some [] := by simp [dctOf]
  have hrd : rdy .put1 (st ++ [.dct []]) (.loc st.length) = true := by simp only [rdy, e0]; rfl
  rw [if_pos hrd] at q
  simp only [evalEs, bind_ok, bind_assoc] at q
  obtain ⟨k2, s2⟩ := s.laid hp (o := .dK []) (c := .dct []) ⟨[], upd_same, by simp [KvRep]⟩
  have hr0 : (rho ++ [p])[st.length]? = some p := by rw [← s.len]; simp
  have n2 := n.mono k2
  have q := RQ.mono k2 q fun _ _ x => x
  refine step s2 n2 q fun x st3 u H3 r3 k3 s3 n3 ru q3 => ?_
  refine step s3 n3 q3 fun y st4 w H4 r4 k4 s4 n4 rw4 q4 => ?_
  simp only [mtD] at q4
  split at q4
  · rename_i kvs ed
    split at q4
    · rename_i hx
      obtain ⟨hx, rfl⟩ := hx
      obtain ⟨kk, ek⟩ := kD_key hx
      obtain ⟨p3, ws, hr3, hc3, hH, kv⟩ := sto_dct s4 ed
      rw [(k3.trans k4).at hr0] at hr3; cases hr3
      simp only [KvRep] at kv
      subst kv
      have ru4 := ru.mono k4
      cases rep_kD ru4 ek
      refine ⟨hH, [(kk, w)], rfl, by simp, ?_⟩
      have kv2 : KvRep g.K r4 H4 [(x, y)] [(kk, w)] := by
       simp only [KvRep]
       exact ⟨kk, w, [], rfl, ek, rw4, rfl⟩
      obtain ⟨k5, s5⟩ := wrote_dct s4 ((k3.trans k4).at hr0) hc3 hH kv2
      exact (show Post g rho H Q (.loc st.length) _ from q4) _ _ r4 (((k2.trans k3).trans k4).trans k5) s5 (rep_loc.mpr ⟨p, (k3.trans k4).at hr0, rfl⟩)
    · exact q4.elim
  · exact q4.elim
theorem turnedL {t' : Nat} {fp : List Addr} {pins : List (Addr × Obj)} {sg : L2.St} {H : Hp} {s : Shared} {h' : Heap} (I : Inv X pins sg H s) (hf : ∀ b ∈ fp, FpOk X pins H b) (k : ∀ b o, b ∉ fp → s.heap.get? b = some o → h'.get? b = some o) : Inv X pins sg H { s with heap := h', toks := t' } := by
 have nit : ∀ b u, H b = some u → b ∉ fp := fun b u e z => by rw [(hf b z).1] at e; cases e
 refine I.step (g' := s.gens) (d' := s.drawn) (ch := fp) (fun b hb => ⟨(hf b hb).2.2.2.1, (hf b hb).2.1, (hf b hb).2.2.2.2.1, (hf b hb).2.2.2.2.2⟩) (fun b o _ _ hc e _ => k b o hc e) (fun b o _ _ hc e _ => ⟨o.slots, k b o hc e⟩) (fun _ _ _ _ n => n)
  (fun b o hc e => ⟨o, k b o hc e⟩) (fun _ _ e => e) (fun _ _ _ e => e) (fun b ps e => ⟨#[], by rw [e]; simp⟩) (fun m hm => ?_) (fun b u e => ?_) I.bare
 · obtain ⟨o, es, ep, ho, r⟩ := hm
   exact ⟨o, es, ep, k _ o (fun z => (hf _ z).2.1 rfl) ho, r⟩
 · refine (I.hok b u e).stay (fun c v hc q => k c v ?_ q) (fun _ q => q) fun _ _ q => q
   rcases hc with z | z
   · rw [z]; exact nit b u e
   · exact nit c _ z
noncomputable def Ite (K : PySem.W.Frag) (a : Addr) : It :=
 ⟨fun i H => ∃ xs x, SqL K H a xs ∧ xs[i]? = some x, fun i H x H' => ∃ b v, x = .ref b ∧ H b = none ∧ H' = upd H b (.tup [.int (i : Nat), v]) ∧ ∀ xs, SqL K H a xs → xs[i]? = some v, fun i H => ∃ xs, SqL K H a xs ∧ xs.length ≤ i⟩
theorem turn_enum {P : Program} {w : World} {K : PySem.W.Frag} {elts : List Expr} {x1} {pt : Pos} (a it e : Addr) (hei : e ≠ it) : Turn P w K (.Tuple elts x1 pt) (Ite K a) [e, it] e (fun i h => (∃ old, IsEnum h e it (i : Nat) old) ∧ h.IsListIter it a i) where
 mem := by simp
 obj := fun i h st b hb => by
  obtain ⟨⟨old, he⟩, o, ho, c, d⟩ := st
  have hb : b = e ∨ b = it := by simpa using hb
  rcases hb with rfl | rfl
  · exact ⟨_, he, fun v z => by cases z⟩
  · exact ⟨o, ho, fun v z => by rw [d] at z; cases z⟩
 keep := fun i h h' st k => ⟨let ⟨old, he⟩ := st.1; ⟨old, k e (by simp) _ he⟩, st.2.at fun o q => k it (by simp) o q⟩
 item := by
  intro X hP hw hK hc i pins s sg H E I hf st hg
  subst hP hw hK
  obtain ⟨xs, x, hq, hx⟩ := hg
  obtain ⟨its, rv, p, hz⟩ := I.list hq
  obtain ⟨u, hu, ru⟩ := rv.get hx
  obtain ⟨⟨old, he⟩, hit⟩ := st
  refine wpAny_pyNext_enum_item he hit p.isList (x := u) (by simpa using hu) hei fun h' ho hit' hT hsz hk => ?_
  refine ⟨_, rfl, wpAny_letOwnedTupleGo_enum ho fun h2 he2 hs2 => ?_⟩
  have hn : H s.heap.objs.size = none := I.hok.fresh (Nat.le_refl _)
  have I1 := I.laid (a := s.heap.objs.size) (o := .tup [.int (i : Nat), x]) (h' := s.heap.push { cls := .type "tuple", data := .seq #[.int (i : Nat) s.toks, u] }) (t' := s.toks) (fun b u e => Heap.get?_push_of_some _ e) (Nat.le_refl _)
   ⟨by rw [sizeLine_eq]; simp, [.int (i : Nat) s.toks, u], .cons ⟨_, rfl⟩ (.cons ru .nil), ⟨_, Heap.get?_push_size _ rfl, rfl, _, rfl⟩⟩
  have hlt : ∀ b ∈ [e, it], b < s.heap.objs.size := fun b hb => by
   have hb : b = e ∨ b = it := by simpa using hb
   rcases hb with rfl | rfl
   · exact Heap.lt_size he
   · obtain ⟨o, q, _⟩ := hit; exact Heap.lt_size q
  have hne : ∀ b ∈ [e, it], b ≠ s.heap.objs.size := fun b hb => Nat.ne_of_lt (hlt b hb)
  have hf1 : ∀ b ∈ [e, it], FpOk X pins (upd H s.heap.objs.size (.tup [.int (i : Nat), x])) b := fun b hb => ⟨by rw [upd_ne (hne b hb)]; exact (hf b hb).1, (hf b hb).2⟩
  have I2 := turnedL (t' := s.toks + 1) (h' := h2) I1 hf1 fun b o hb q => by
   have hbe : b ≠ e := fun z => hb (by simp [z])
   have hbi : b ≠ it := fun z => hb (by simp [z])
   by_cases hbs : b = s.heap.objs.size
   · subst hbs
     rw [Heap.get?_push_size _ rfl] at q
     cases q
     exact (hs2.2 _ hbe).trans hT
   · have q' : s.heap.get? b = some o := (Heap.get?_push_cases q).elim (fun z => absurd z.1 hbs) id
     exact (hs2.2 _ hbe).trans (hk b o hbe hbi q')
  refine ⟨.ref s.heap.objs.size, _, I2, rfl, ⟨_, x, rfl, hn, rfl, fun ys hy => by rw [I.list_inj hy hq]; exact hx⟩, ⟨⟨u, by simpa using he2⟩, hit'.at fun o q => (hs2.2 _ hei.symm).trans q⟩, fun b hb => (hf1 b hb).1⟩
 done := by
  intro X hP hw hK hc i pins s sg H E I hf st hg
  subst hP hw hK
  obtain ⟨xs, hq, hx⟩ := hg
  obtain ⟨its, rv, p, hz⟩ := I.list hq
  obtain ⟨⟨old, he⟩, hit⟩ := st
  have hl := rv.length
  exact wpAny_pyNext_enum_end (I.ok.hd hc) he hit p.isList (by simp; omega) fun h' hk => ⟨rfl, turnedL (t' := s.toks) I hf fun b o hb q => hk b o (fun z => hb (by simp [z])) q⟩
 self := fun _ i s Q E st h => let ⟨old, he⟩ := st.1; wpAny_pyIter_enum he h
noncomputable def iEnum (K : PySem.W.Frag) (ta : TA) : TI := fun sg H R => ta sg H fun vs H1 => ∃ a, vs = [.ref a] ∧ (∃ xs, SqL K H1 a xs) ∧ R (Ite K a) H1
theorem pi_enum {l : Expr} {ta : TA} {elts : List Expr} {x1} {pt p pos : Pos} (hg : Gl X "enumerate") (hm : X.mg "enumerate" = none) (ha : PA X [l] ta) (hs : starEach [l] X.env = [(false, eval l X.env)] := by rfl) : PI X (.Tuple elts x1 pt) (.Call (.Name "enumerate" p) [l] [] pos) (iEnum X.K ta) := by
 intro pins s sg H R I h
 refine Call_ (ld_blt I hg hm boot_enumerate (PyProof.Rows.callWith_type1 (thn (ha pos pins s sg H _ I h) fun us s1 ⟨vs, H1, I1, r1, q1⟩ => ?_) hs rfl))
 obtain ⟨a, e, ⟨xs, hq⟩, q⟩ := q1
 subst e
 cases r1 with
 | cons r rr =>
  cases rr
  cases r
  obtain ⟨its, rv, p, hz⟩ := I1.list hq
  refine call_enumerate_list p.isList fun h' he hit hsz hk => wpAny_pyIter_enum he ?_
  refine ⟨_, [s1.heap.objs.size + 1, s1.heap.objs.size], _, _, H1, rfl, I1.kept (t' := s1.toks) hk, turn_enum a s1.heap.objs.size (s1.heap.objs.size + 1) (Nat.succ_ne_self _), ⟨⟨_, he⟩, hit⟩, fun b hb => ?_, q⟩
  have hb : s1.heap.objs.size ≤ b := by
   have : b = s1.heap.objs.size + 1 ∨ b = s1.heap.objs.size := by simpa using hb
   rcases this with z | z
   · rw [z]; exact Nat.le_succ _
   · rw [z]; exact Nat.le_refl _
  exact I1.fpOk hb (I1.hok.fresh hb)
noncomputable def tgE (K : PySem.W.Frag) (i : Nat) (is : List Nat) (one : Bool) : TG := gTup K 2 (gCons (gName i) (gCons (tg K is one) gNil))
theorem tgE_store {rho : List Addr} {H : Hp} {Q : L2.St → Hp → Prop} {i k : Nat} {is : List Nat} {one : Bool} {d : D} {v : V} {q : Addr} {env env' : Env} {sg : L2.St} (e : storeE i is one (.tup [.int (k : Nat), d]) env = some env') (r : g.Rep rho H d v) (hq : SqT g.K H q [.int (k : Nat), v]) (n : g.Env rho H env sg) (h : ∀ sg', g.Env rho H env' sg' → Q sg' H) : tgE g.K i is one (.ref q) sg H Q := by
 simp only [storeE] at e
 cases e1 : store [i] true (.int (k : Nat)) env with
 | none => rw [e1] at e; cases e
 | some env1 =>
  rw [e1, Option.bind_some] at e
  refine ⟨q, _, rfl, hq, rfl, .int (k : Nat), [v], rfl, ?_⟩
  have := tg_store (g := g) (rho := rho) (H := H) (is := [i]) (one := true) (d := .int (k : Nat)) (v := .int (k : Nat)) (env := env) (env' := env1) (sg := sg) (Q := fun sg' H' => gCons (tg g.K is one) gNil [v] sg' H' Q) e1 (rep_int.mpr rfl) n fun sg1 n1 => ⟨v, [], rfl, tg_store e r n1 fun sg2 n2 => ⟨rfl, h sg2 n2⟩⟩
  exact this
theorem enumD_get : ∀ (xs : List D) (k i : Nat), (enumD k xs)[i]? = (xs[i]?).map fun d => .tup [.int ((k + i : Nat) : Int), d]
 | [], k, i => by simp [enumD]
 | x :: r, k, 0 => by simp [enumD]
 | x :: r, k, i + 1 => by
  simp only [enumD, List.getElem?_cons_succ]
  rw [enumD_get r (k + 1) i, show k + 1 + i = k + (i + 1) by omega]
theorem enumD_len : ∀ (xs : List D) (k : Nat), (enumD k xs).length = xs.length
 | [], k => rfl
 | x :: r, k => by simp [enumD, enumD_len r]
theorem for_anyE {J : It} {xs : List D} {p : Option Nat} {i0 : Nat} {is : List Nat} {one : Bool} {x' : Ss} {r1 : List Addr} {H1 : Hp} {D : Ends} {sg : L2.St} {st1 : Sto} {env : Env}
    (hJ : ∀ rho st H, g.Keep r1 H1 rho H → g.Sto rho st H → stays st p xs = true → J.stop xs.length H ∧ ∀ (i : Nat) (d : DD.D), xs[i]? = some d → J.go i H ∧ ∀ x H', J.yld i H x H' → ∃ b v, x = .ref b ∧ H b = none ∧ H' = upd H b (.tup [.int (i : Nat), v]) ∧ g.Rep rho H d v)
    (s1 : g.Sto r1 st1 H1) (n1 : g.Env r1 H1 env sg) (q1 : RQ g (forLoop xs p (fun d env st => match storeE i0 is one d env with | some env' => execSs g.tab g.call F x' env' st | none => .bad) (enumD 0 xs) env st1) (PostF g r1 H1 D) r1 H1) :
    ∃ W : Nat → Nat → L2.St → Hp → Prop, (∃ m, W 0 m sg H1) ∧ ∀ i m sg H, W i m sg H →
      (J.stop i H ∧ D.nx sg H) ∨ (J.go i H ∧ ∃ N : L2.St → Hp → Prop, (∀ sg' H', N sg' H' → ∃ m', m' < m ∧ W (i + 1) m' sg' H') ∧ ∀ x H', J.yld i H x H' → tgE g.K i0 is one x sg H' fun sg2 H2 => tSs g F x' { D with nx := N, ct := N, bk := D.nx } sg2 H2) := by
  refine ⟨fun i m sg H => m = xs.length - i ∧ i ≤ xs.length ∧ ∃ rho st env, g.Keep r1 H1 rho H ∧ g.Sto rho st H ∧ g.Env rho H env sg ∧ RQ g (forLoop xs p (fun d env st => match storeE i0 is one d env with | some env' => execSs g.tab g.call F x' env' st | none => .bad) ((enumD 0 xs).drop i) env st) (PostF g rho H D) rho H, ⟨xs.length, by simp, Nat.zero_le _, r1, st1, env, .refl _ _, s1, n1, q1⟩, ?_⟩
  rintro i m sg H ⟨rfl, hi, rho, st, env, kk, s, n, q⟩
  have hst : stays st p xs = true := by
    cases z : stays st p xs with
    | true => rfl
    | false =>
      exfalso
      cases e : (enumD 0 xs).drop i with
      | nil => rw [e] at q; simp only [forLoop, z] at q; exact q
      | cons d t => rw [e] at q; simp only [forLoop, z] at q; exact q
  obtain ⟨h1, h2⟩ := hJ rho st H kk s hst
  by_cases hlt : i < xs.length
  · obtain ⟨hgo, hy⟩ := h2 i xs[i] (List.getElem?_eq_getElem hlt)
    refine .inr ⟨hgo, fun sg H => i + 1 ≤ xs.length ∧ ∃ rho st env, g.Keep r1 H1 rho H ∧ g.Sto rho st H ∧ g.Env rho H env sg ∧ RQ g (forLoop xs p (fun d env st => match storeE i0 is one d env with | some env' => execSs g.tab g.call F x' env' st | none => .bad) ((enumD 0 xs).drop (i + 1)) env st) (PostF g rho H D) rho H, fun sg' H' h => ⟨xs.length - (i + 1), by omega, rfl, h.1, h.2⟩, fun x H' y => ?_⟩
    obtain ⟨b, v, rfl, hb, rfl, rx⟩ := hy x H' y
    have hlt' : i < (enumD 0 xs).length := by rw [enumD_len]; exact hlt
    have hd : (enumD 0 xs)[i] = .tup [.int (i : Nat), xs[i]] := by
      have := enumD_get xs 0 i
      rw [List.getElem?_eq_getElem hlt', List.getElem?_eq_getElem hlt, Nat.zero_add] at this
      exact Option.some.inj this
    rw [List.drop_eq_getElem_cons hlt', hd] at q
    simp only [forLoop, hst, if_true] at q
    have eS := same_upd hb (.tup [.int (i : Nat), v])
    have k0 : g.Keep rho H rho (upd H b (.tup [.int (i : Nat), v])) := Same.keep eS rho
    have q := RQ.mono k0 q fun f st p => PostF.mono k0 p
    have kk := kk.trans k0
    have s := s.same eS
    have n := n.mono k0
    have rx := rx.mono k0
    cases es : storeE i0 is one (.tup [.int (i : Nat), xs[i]]) env with
    | none => rw [es] at q; exact q.elim
    | some env1 =>
      rw [es] at q
      refine tgE_store es rx (SqT.of upd_same) n fun sg1 n1 => ?_
      refine ⟨rho, st, env1, s, n1, ?_⟩
      revert q
      simp only
      cases execSs g.tab g.call F x' env1 st with
      | bad => exact fun q => q
      | exc c st2 => exact fun q => q
      | ok f st2 =>
        simp only [bind_ok]
        cases f with
        | next env2 => exact fun q sg2 H2 r2 k2 s2 n2 => ⟨hlt, r2, st2, env2, kk.trans k2, s2, n2, RQ.mono k2 q fun f st p => PostF.mono k2 p⟩
        | cont env2 => exact fun q sg2 H2 r2 k2 s2 n2 => ⟨hlt, r2, st2, env2, kk.trans k2, s2, n2, RQ.mono k2 q fun f st p => PostF.mono k2 p⟩
        | brk env2 => exact fun q => q
        | ret d => exact fun q => q
  · have e : i = xs.length := by omega
    subst e
    refine .inl ⟨h1, ?_⟩
    rw [List.drop_eq_nil_of_le (by rw [enumD_len]; exact Nat.le_refl _)] at q
    simp only [forLoop, hst, if_true] at q
    exact (show PostF g rho H D (.next env) st from q) sg H rho (.refl _ _) s n
theorem s_forE {i0 : Nat} {is : List Nat} {one : Bool} {elts : List Expr} {x1} {pt p pos2 : Pos} {e : Expr} {body : List Stmt} {x' : Ss} {e' : E} (hK : X.K = g.K) (hp : PassesOwn (model X.prog X.w) X.A X.env X.xe) (hc : X.calm = true) (hg : Gl X "enumerate") (hm : X.mg "enumerate" = none) (ha : Sd g X e e') (ht : PG X (.Tuple elts x1 pt) (tgE g.K i0 is one)) (hx : SdSs g X F body x')
    (he : starEach [e] X.env = [(false, eval e X.env)] := by rfl) (hs : ∀ x, foldedSetIterable (.Call (.Name "enumerate" p) [e] [] pos) X.env x = pure x := by intro _; rfl) : SdS g X F (.For (.Tuple elts x1 pt) (.Call (.Name "enumerate" p) [e] [] pos) body [] pos2) (.forE i0 is one e' x') := ps_imp (ps_for hp hc (pi_enum hg hm (sdl_cons ha sdl_nil he) he) ht hx hs) fun D sg H q => by
  obtain ⟨rho, st, env, s, n, q⟩ := q
  simp only [execS] at q
  have q : RQ g ((evalEs g.tab g.call (.cons e' .nil) env st).bind fun ds st => match ds with
      | [d] => (match walkOf false st d with
        | some (xs, p) => forLoop xs p (fun d env st => match storeE i0 is one d env with | some env' => execSs g.tab g.call F x' env' st | none => .bad) (enumD 0 xs) env st
        | none => .bad)
      | _ => .bad) (PostF g rho H D) rho H := by
    simp only [evalEs, bind_assoc, bind_ok]
    exact q
  refine stepL2 s n q fun ds st1 vs H1 r1 hl k1 s1 n1 rps q1 => ?_
  match ds, hl with
  | [d], _ =>
    obtain ⟨v, rfl, rp⟩ := repL1 rps
    cases d with
    | loc m =>
      simp only [walkOf, Bool.false_eq_true, if_false] at q1
      cases el : lstOf st1 m with
      | none => rw [el] at q1; exact q1.elim
      | some ds =>
        rw [el] at q1
        simp only [Option.map_some] at q1
        obtain ⟨p, vs, hr, sq, rl⟩ := sto_seq s1 el
        obtain ⟨p2, hr2, rfl⟩ := rep_loc.mp rp
        rw [hr] at hr2; cases hr2
        refine ⟨p, rfl, ⟨vs, by rw [hK]; exact sq⟩, ?_⟩
        rw [hK]
        refine for_anyE (J := Ite g.K p) (p := some m) (fun rho st H kk s hst => ?_) s1 n1 (RQ.mono (.refl _ _) q1 fun f st p => PostF.mono k1 p)
        have hst : lstOf st m = some ds := of_decide_eq_true hst
        obtain ⟨p3, ws, hr3, sq3, rl3⟩ := sto_seq s hst
        rw [kk.at hr] at hr3; cases hr3
        refine ⟨⟨ws, sq3, by rw [← rl3.length]; exact Nat.le_refl _⟩, fun i d hd => ?_⟩
        obtain ⟨v, hv, rv⟩ := rl3.get hd
        refine ⟨⟨ws, v, sq3, hv⟩, fun x H' y => ?_⟩
        obtain ⟨b, v2, rfl, hb, rfl, hw⟩ := y
        have := hw ws sq3
        rw [hv] at this; cases this
        exact ⟨b, _, rfl, hb, rfl, rv⟩
    | _ => exact q1.elim
end DD
namespace DD
open PySem PySem.Spec L2
open PyProof.Rows hiding St RelV
section
variable {g : G} {X : Cx} {pos : Pos}
end
end DD
namespace My
open PySem PySem.Spec L2 DD
open PyProof.Rows hiding St
noncomputable def top (i : Nat) : Stmt := PySem.Challenge.pw_partproof_k33_classes.main.body.getD i (.Pass ⟨0, 0, 0, 0⟩)
noncomputable def clsBody : Stmt → List Stmt
 | .ClassDef _ _ _ b _ _ _ _ _ _ _ => b
 | _ => []
noncomputable def meth (i j : Nat) : Stmt := (clsBody (top i)).getD j (.Pass ⟨0, 0, 0, 0⟩)
theorem passF {P : Program} {w : World} {X : Cx} : Passes (CXd P w) X (fun _ _ _ => False) := fun _ _ _ _ _ _ _ ⟨_, _, _, _, _, _, _, h⟩ => h.elim
abbrev st_terms_in : Stmt := top 1
abbrev st_label_of : Stmt := top 2
abbrev st_Numbering_9__init__ : Stmt := meth 3 0
abbrev st_Numbering_9number : Stmt := meth 3 1
abbrev st_ways_of : Stmt := top 5
abbrev st_ways_of_numbers : Stmt := top 6
abbrev st_reached_from : Stmt := top 7
abbrev st_classes : Stmt := top 8
abbrev st__law_cell_at : Stmt := top 10
abbrev st__law_stream : Stmt := top 11
abbrev st__law_term : Stmt := top 12
abbrev st__law_reached : Stmt := top 13
abbrev st_law : Stmt := top 14
noncomputable def c_terms_in : Ss := (.cons (.set 1 (.ix (.var 0) (.cst (.int 0)))) (.cons (.ifS (.cm .eq (.var 1) (.cst (.str (Str.ofString "plus")))) (.cons (.ret (.ix (.var 0) (.cst (.int 1)))) .nil) .nil) (.cons (.ifS (.cm .eq (.var 1) (.cst (.str (Str.ofString "call")))) (.cons (.ret (.ix (.var 0) (.cst (.int 2)))) .nil) .nil) (.cons (.ifS (.cm .eq (.var 1) (.cst (.str (Str.ofString "weigh")))) (.cons (.ret (.sl 1 (.var 0) (.cons (.cst (.int 2)) .nil))) .nil) .nil) (.cons (.ifS (.cm .inL (.var 1) (.tupE (.cons (.cst (.str (Str.ofString "read"))) (.cons (.cst (.str (Str.ofString "put"))) .nil)))) (.cons (.ret (.sl 1 (.var 0) (.cons (.cst (.int 1)) .nil))) .nil) .nil) (.cons (.ret (.tupE .nil)) .nil))))))
noncomputable def c_label_of : Ss := (.cons (.ifS (.cm .inL (.ix (.var 0) (.cst (.int 0))) (.tupE (.cons (.cst (.str (Str.ofString "plus"))) (.cons (.cst (.str (Str.ofString "read"))) (.cons (.cst (.str (Str.ofString "put"))) .nil))))) (.cons (.ret (.sl 2 (.var 0) (.cons (.cst (.int 1)) .nil))) .nil) .nil) (.cons (.ret (.sl 2 (.var 0) (.cons (.cst (.int 2)) .nil))) .nil))
noncomputable def c_Numbering_9__init__ : Ss := (.cons (.setf 0 (.var 0) (Str.ofString "terms") (.lstE .nil)) (.cons (.setf 0 (.var 0) (Str.ofString "numbers") .dnewN) .nil))
noncomputable def c_Numbering_9number : Ss := (.cons (.set 2 (.tupE (.cons (.call 1 (.cons (.var 1) .nil) []) (.cons (.bt .tupleB (.cons (.comp 1 true 1 [0] [0] (.call 0 (.cons (.var 1) .nil) []) .nil (.meth 0 3 (Str.ofString "number") (.var 1) (.cons (.var 0) .nil))) .nil)) .nil)))) (.cons (.ifS (.cm .notIn (.var 2) (.fld 0 (.var 0) (Str.ofString "numbers"))) (.cons (.dput (.fld 0 (.var 0) (Str.ofString "numbers")) (.var 2) (.bt .lenB (.cons (.fld 0 (.var 0) (Str.ofString "terms")) .nil))) (.cons (.ex (.mt .append (.fld 0 (.var 0) (Str.ofString "terms")) (.cons (.var 1) .nil))) .nil)) .nil) (.cons (.ret (.ix (.fld 0 (.var 0) (Str.ofString "numbers")) (.var 2))) .nil)))
noncomputable def c_ways_of : Ss := (.cons (.ret (.call 5 (.cons (.comp 0 false 3 [0, 1, 2] [0] (.var 1) .nil (.tupE (.cons (.var 0) (.cons (.meth 0 3 (Str.ofString "number") (.var 3) (.cons (.var 1) .nil)) (.cons (.meth 0 3 (Str.ofString "number") (.var 3) (.cons (.var 2) .nil)) .nil))))) .nil) [])) .nil)
noncomputable def c_ways_of_numbers : Ss := (.cons (.set 1 .dnew) (.cons (.forS [2, 3, 4] false false (.var 0) (.cons (.ex (.mt .append (.mt .sdef (.var 1) (.cons (.var 3) (.cons (.lstE .nil) .nil))) (.cons (.tupE (.cons (.var 2) (.cons (.var 4) .nil))) .nil))) (.cons (.ex (.mt .append (.mt .sdef (.var 1) (.cons (.var 4) (.cons (.lstE .nil) .nil))) (.cons (.tupE (.cons (.var 2) (.cons (.var 3) .nil))) .nil))) .nil))) (.cons (.ret (.var 1)) .nil)))
noncomputable def c_reached_from : Ss := (.cons (.set 2 (.mt .put1 .dnew (.cons (.var 1) (.cons (.cst .non) .nil)))) (.cons (.set 3 (.lstE (.cons (.var 1) .nil))) (.cons (.set 4 (.cst (.int 0))) (.cons (.whileS (.cm .lt (.var 4) (.bt .lenB (.cons (.var 3) .nil))) (.cons (.set 5 (.ix (.var 3) (.var 4))) (.cons (.forS [6, 7] false false (.mt .get (.var 0) (.cons (.var 5) (.cons (.lstE .nil) .nil))) (.cons (.ifS (.cm .notIn (.var 7) (.var 2)) (.cons (.dput (.var 2) (.var 7) (.tupE (.cons (.var 6) (.cons (.var 5) .nil)))) (.cons (.ex (.mt .append (.var 3) (.cons (.var 7) .nil))) .nil)) .nil) .nil)) (.cons (.aug 4 .add (.cst (.int 1))) .nil)))) (.cons (.ret (.var 2)) .nil)))))
noncomputable def c_classes : Ss := (.cons (.set 2 (.mk 0 2 .nil)) (.cons (.set 3 (.call 4 (.cons (.var 2) (.cons (.var 1) .nil)) [])) (.cons (.set 4 .dnew) (.cons (.forS [5] true false (.var 0) (.cons (.ifS (.cm .notIn (.meth 0 3 (Str.ofString "number") (.var 2) (.cons (.var 5) .nil)) (.var 4)) (.cons (.ex (.mt .upd (.var 4) (.cons (.dcomp 4 true 1 [0] [5] (.mt .frzD (.call 6 (.cons (.var 3) (.cons (.meth 0 3 (Str.ofString "number") (.var 2) (.cons (.var 5) .nil)) .nil)) []) .nil) .nil (.var 0) (.var 1)) .nil))) .nil) .nil) .nil)) (.cons (.ret (.dcompN 0 true 1 [0] [4, 2] (.var 0) .nil (.var 0) (.ix (.var 1) (.meth 0 3 (Str.ofString "number") (.var 2) (.cons (.var 0) .nil))))) .nil)))))
noncomputable def c__law_cell_at : Ss := (.cons (.ifS (.cm .lt (.var 1) (.bt .lenB (.cons (.var 0) .nil))) (.cons (.ret (.ix (.var 0) (.var 1))) .nil) .nil) (.cons (.ret (.cst (.int 0))) .nil))
noncomputable def c__law_stream : Ss := (.cons (.set 2 (.lstE .nil)) (.cons (.set 3 (.op .fdiv (.var 0) (.cst (.int 2)))) (.cons (.whileS (.andE (.cm .eq (.op .mod (.var 0) (.cst (.int 2))) (.cst (.int 0))) (.andE (.cm .gt (.var 3) (.cst (.int 0))) (.cm .lt (.bt .lenB (.cons (.var 2) .nil)) (.var 1)))) (.cons (.ex (.mt .append (.var 2) (.cons (.op .mod (.var 3) (.op .pow (.cst (.int 10)) (.cst (.int 9)))) .nil))) (.cons (.set 3 (.op .fdiv (.var 3) (.op .pow (.cst (.int 10)) (.cst (.int 9))))) .nil))) (.cons (.set 3 (.op .mod (.op .mul (.op .add (.op .fdiv (.var 0) (.cst (.int 2))) (.cst (.int 7919))) (.cst (.int 48271))) (.cst (.int 2147483647)))) (.cons (.forR [4] (.cons (.var 1) .nil) (.cons (.set 3 (.op .mod (.op .mul (.var 3) (.op .add (.op .add (.op .fdiv (.var 3) (.cst (.int 1009))) (.cst (.int 69621))) (.var 4))) (.cst (.int 2147483647)))) (.cons (.ex (.mt .append (.var 2) (.cons (.var 3) .nil))) (.cons (.set 3 (.op .add (.var 3) (.cst (.int 1)))) .nil)))) (.cons (.ret (.sl 2 (.var 2) (.cons (.var 1) .nil))) .nil))))))
noncomputable def c__law_term : Ss := (.cons (.set 1 (.lstE (.cons (.cst (.str (Str.ofString "a"))) (.cons (.cst (.str (Str.ofString "b"))) (.cons (.cst (.str (Str.ofString "c"))) (.cons (.cst (.str (Str.ofString "d"))) (.cons (.cst (.str (Str.ofString "ab"))) (.cons (.cst (.str (Str.ofString "ba"))) .nil)))))))) (.cons (.set 2 (.tupE (.cons (.cst (.str (Str.ofString "unknown"))) (.cons (.ix (.var 1) (.op .mod (.var 0) (.cst (.int 6)))) .nil)))) (.cons (.ifS (.cm .eq (.op .mod (.op .fdiv (.var 0) (.cst (.int 6))) (.cst (.int 3))) (.cst (.int 1))) (.cons (.ret (.tupE (.cons (.cst (.str (Str.ofString "call"))) (.cons (.ix (.lstE (.cons (.cst (.str (Str.ofString "g"))) (.cons (.cst (.str (Str.ofString "h"))) .nil))) (.op .mod (.op .fdiv (.var 0) (.cst (.int 18))) (.cst (.int 2)))) (.cons (.tupE (.cons (.var 2) .nil)) .nil))))) .nil) .nil) (.cons (.ifS (.andE (.cm .eq (.op .mod (.op .fdiv (.var 0) (.cst (.int 6))) (.cst (.int 3))) (.cst (.int 2))) (.cm .eq (.op .mod (.op .fdiv (.var 0) (.cst (.int 18))) (.cst (.int 4))) (.cst (.int 0)))) (.cons (.ret (.tupE (.cons (.cst (.str (Str.ofString "call"))) (.cons (.cst (.str (Str.ofString "g"))) (.cons (.tupE (.cons (.tupE (.cons (.cst (.str (Str.ofString "call"))) (.cons (.cst (.str (Str.ofString "g"))) (.cons (.tupE (.cons (.var 2) .nil)) .nil)))) .nil)) .nil))))) .nil) .nil) (.cons (.ret (.var 2)) .nil)))))
noncomputable def c__law_reached : Ss := (.cons (.set 2 (.lstE (.cons (.var 1) .nil))) (.cons (.forR [3] (.cons (.bt .lenB (.cons (.var 0) .nil)) .nil) (.cons (.forS [4, 5, 6] false false (.var 0) (.cons (.ifS (.andE (.cm .inL (.var 5) (.var 2)) (.cm .notIn (.var 6) (.var 2))) (.cons (.ex (.mt .append (.var 2) (.cons (.var 6) .nil))) .nil) .nil) (.cons (.ifS (.andE (.cm .inL (.var 6) (.var 2)) (.cm .notIn (.var 5) (.var 2))) (.cons (.ex (.mt .append (.var 2) (.cons (.var 5) .nil))) .nil) .nil) .nil))) .nil)) (.cons (.ret (.var 2)) .nil)))
noncomputable def c_law : Ss := (.cons (.set 1 (.op .mod (.call 8 (.cons (.var 0) (.cons (.cst (.int 0)) .nil)) []) (.cst (.int 13)))) (.cons (.set 2 (.comp 0 true 1 [0] [] (.sl 3 (.var 0) (.cons (.cst (.int 1)) (.cons (.op .add (.cst (.int 1)) (.var 1)) .nil))) .nil (.call 10 (.cons (.var 0) .nil) []))) (.cons (.set 3 (.op .add (.var 2) (.lstE (.cons (.tupE (.cons (.cst (.str (Str.ofString "unknown"))) (.cons (.cst (.str (Str.ofString "z"))) .nil))) (.cons (.tupE (.cons (.cst (.str (Str.ofString "unknown"))) (.cons (.cst (.str (Str.ofString "zz"))) .nil))) (.cons (.tupE (.cons (.cst (.str (Str.ofString "call"))) (.cons (.cst (.str (Str.ofString "h"))) (.cons (.tupE (.cons (.tupE (.cons (.cst (.str (Str.ofString "unknown"))) (.cons (.cst (.str (Str.ofString "z"))) .nil))) .nil)) .nil)))) .nil)))))) (.cons (.set 4 (.lstE .nil)) (.cons (.forE 5 [6] true (.sl 3 (.var 0) (.cons (.op .add (.cst (.int 1)) (.var 1)) (.cons (.op .add (.cst (.int 21)) (.var 1)) .nil))) (.cons (.set 7 (.call 9 (.cons (.var 6) (.cons (.cst (.int 2)) .nil)) [])) (.cons (.ex (.mt .append (.var 4) (.cons (.tupE (.cons (.var 5) (.cons (.ix (.var 3) (.op .mod (.ix (.var 7) (.cst (.int 0))) (.bt .lenB (.cons (.var 3) .nil)))) (.cons (.ix (.var 3) (.op .mod (.ix (.var 7) (.cst (.int 1))) (.bt .lenB (.cons (.var 3) .nil)))) .nil)))) .nil))) .nil))) (.cons (.set 8 .dnewN) (.cons (.forS [9] true false (.var 2) (.cons (.set 10 (.call 11 (.cons (.var 4) (.cons (.var 9) .nil)) [])) (.cons (.dput (.var 8) (.var 9) (.ix (.comp 0 true 1 [0] [10] (.var 2) (.cons (.cm .inL (.var 0) (.var 1)) .nil) (.var 0)) (.cst (.int 0)))) .nil))) (.cons (.set 11 (.lstE (.cons (.bt .listB (.cons (.var 2) .nil)) (.cons (.bt .listB (.cons (.var 4) .nil)) .nil)))) (.cons (.set 12 (.call 7 (.cons (.ix (.var 11) (.cst (.int 0))) (.cons (.ix (.var 11) (.cst (.int 1))) .nil)) [])) (.cons (.ifS (.orE (.notE (.isi (.var 12) (.b "dict"))) (.orE (.mt .neM (.var 12) (.cons (.var 8) .nil)) (.cm .ne (.var 11) (.lstE (.cons (.var 2) (.cons (.var 4) .nil)))))) (.cons (.ret (.cst (.bl false))) .nil) .nil) (.cons (.ex (.mt .clearN (.var 12) .nil)) (.cons (.ret (.mt .eqM (.call 7 (.cons (.var 2) (.cons (.var 4) .nil)) []) (.cons (.var 8) .nil))) .nil))))))))))))
noncomputable def fns : List Fn := [⟨1, 2, c_terms_in⟩, ⟨1, 1, c_label_of⟩, ⟨1, 1, c_Numbering_9__init__⟩, ⟨2, 3, c_Numbering_9number⟩, ⟨2, 2, c_ways_of⟩, ⟨1, 5, c_ways_of_numbers⟩, ⟨2, 8, c_reached_from⟩, ⟨2, 6, c_classes⟩, ⟨2, 2, c__law_cell_at⟩, ⟨2, 5, c__law_stream⟩, ⟨1, 3, c__law_term⟩, ⟨2, 7, c__law_reached⟩, ⟨1, 13, c_law⟩]
noncomputable def tab (n : Nat) (t : Ty) : Option Bool := match n with
 | _ => none
theorem tab_b {n : Nat} {x : String} (h : x ≠ "ValueError") : tab n (.b x) = none := by
 unfold tab
 split
 · rfl
section
variable (K : PySem.W.Frag) (mg : Str → Option Value) (ad : Nat → Addr) (fd : Nat → FuncData) (cls : CW)
structure Txt : Prop where
 f_terms_in : FunD K "terms_in" "terms_in" st_terms_in (ad 0) (fd 0)
 m_terms_in : mg "terms_in" = some (.ref (ad 0))
 b_terms_in : Binds K (fd 0) ["term"] []
 f_label_of : FunD K "label_of" "label_of" st_label_of (ad 1) (fd 1)
 m_label_of : mg "label_of" = some (.ref (ad 1))
 b_label_of : Binds K (fd 1) ["term"] []
 f_Numbering_9__init__ : FunD K "__init__" "Numbering.__init__" st_Numbering_9__init__ (ad 2) (fd 2)
 b_Numbering_9__init__ : Binds K (fd 2) ["self"] []
 f_Numbering_9number : FunD K "number" "Numbering.number" st_Numbering_9number (ad 3) (fd 3)
 b_Numbering_9number : Binds K (fd 3) ["self", "term"] []
 f_ways_of : FunD K "ways_of" "ways_of" st_ways_of (ad 4) (fd 4)
 m_ways_of : mg "ways_of" = some (.ref (ad 4))
 b_ways_of : Binds K (fd 4) ["numbering", "links"] []
 f_ways_of_numbers : FunD K "ways_of_numbers" "ways_of_numbers" st_ways_of_numbers (ad 5) (fd 5)
 m_ways_of_numbers : mg "ways_of_numbers" = some (.ref (ad 5))
 b_ways_of_numbers : Binds K (fd 5) ["links"] []
 f_reached_from : FunD K "reached_from" "reached_from" st_reached_from (ad 6) (fd 6)
 m_reached_from : mg "reached_from" = some (.ref (ad 6))
 b_reached_from : Binds K (fd 6) ["ways", "start"] []
 f_classes : FunD K "classes" "classes" st_classes (ad 7) (fd 7)
 m_classes : mg "classes" = some (.ref (ad 7))
 b_classes : Binds K (fd 7) ["terms", "links"] []
 f__law_cell_at : FunD K "_law_cell_at" "_law_cell_at" st__law_cell_at (ad 8) (fd 8)
 m__law_cell_at : mg "_law_cell_at" = some (.ref (ad 8))
 b__law_cell_at : Binds K (fd 8) ["_law_script", "_law_k"] []
 f__law_stream : FunD K "_law_stream" "_law_stream" st__law_stream (ad 9) (fd 9)
 m__law_stream : mg "_law_stream" = some (.ref (ad 9))
 b__law_stream : Binds K (fd 9) ["_law_cell", "_law_many"] []
 f__law_term : FunD K "_law_term" "_law_term" st__law_term (ad 10) (fd 10)
 m__law_term : mg "_law_term" = some (.ref (ad 10))
 b__law_term : Binds K (fd 10) ["_law_number"] []
 f__law_reached : FunD K "_law_reached" "_law_reached" st__law_reached (ad 11) (fd 11)
 m__law_reached : mg "_law_reached" = some (.ref (ad 11))
 b__law_reached : Binds K (fd 11) ["_law_links", "_law_one"] []
 f_law : FunD K "law" "law" st_law (ad 12) (fd 12)
 m_law : mg "law" = some (.ref (ad 12))
 b_law : Binds K (fd 12) ["_law_script"] []
 cl_Numbering : Cls K (cls 0)
 na_Numbering_numbers : NoAttr K (cls 0) "numbers"
 na_Numbering_terms : NoAttr K (cls 0) "terms"
 me_Numbering_number : Meth K (cls 0) "number" (ad 3)
 k_Numbering : Mk K (cls 0) (ad 2)
 mc_Numbering : mg "Numbering" = some (.ref (cls 0))
 z_dict : mg "dict" = none
 z_enumerate : mg "enumerate" = none
 z_isinstance : mg "isinstance" = none
 z_len : mg "len" = none
 z_list : mg "list" = none
 z_range : mg "range" = none
 z_tuple : mg "tuple" = none
end
section
variable {Pr : Program} {w : World} {K : PySem.W.Frag} {mg : Str → Option Value} {base : Heap} {ad : Nat → Addr} {fd : Nat → FuncData} {cls : CW} {FF : Nat}
structure IH (Pr : Program) (w : World) (K : PySem.W.Frag) (mg : Str → Option Value) (base : Heap) (ad : Nat → Addr) (fd : Nat → FuncData) (cls : CW) (FF n : Nat) : Prop where
 i_terms_in : FnOk Pr w K mg base (CXd Pr w) (2 * n) (ad 0) (fd 0) ["term"] (spD K cls 1 (callD tab fns FF n 0))
 i_label_of : FnOk Pr w K mg base (CXd Pr w) (2 * n) (ad 1) (fd 1) ["term"] (spD K cls 1 (callD tab fns FF n 1))
 i_Numbering_9__init__ : FnOk Pr w K mg base (CXd Pr w) (2 * n) (ad 2) (fd 2) ["self"] (spD K cls 1 (callD tab fns FF n 2))
 i_Numbering_9number : FnOk Pr w K mg base (CXd Pr w) (2 * n) (ad 3) (fd 3) ["self", "term"] (spD K cls 2 (callD tab fns FF n 3))
 i_ways_of : FnOk Pr w K mg base (CXd Pr w) (2 * n) (ad 4) (fd 4) ["numbering", "links"] (spD K cls 2 (callD tab fns FF n 4))
 i_ways_of_numbers : FnOk Pr w K mg base (CXd Pr w) (2 * n) (ad 5) (fd 5) ["links"] (spD K cls 1 (callD tab fns FF n 5))
 i_reached_from : FnOk Pr w K mg base (CXd Pr w) (2 * n) (ad 6) (fd 6) ["ways", "start"] (spD K cls 2 (callD tab fns FF n 6))
 i_classes : FnOk Pr w K mg base (CXd Pr w) (2 * n) (ad 7) (fd 7) ["terms", "links"] (spD K cls 2 (callD tab fns FF n 7))
 i__law_cell_at : FnOk Pr w K mg base (CXd Pr w) (2 * n) (ad 8) (fd 8) ["_law_script", "_law_k"] (spD K cls 2 (callD tab fns FF n 8))
 i__law_stream : FnOk Pr w K mg base (CXd Pr w) (2 * n) (ad 9) (fd 9) ["_law_cell", "_law_many"] (spD K cls 2 (callD tab fns FF n 9))
 i__law_term : FnOk Pr w K mg base (CXd Pr w) (2 * n) (ad 10) (fd 10) ["_law_number"] (spD K cls 1 (callD tab fns FF n 10))
 i__law_reached : FnOk Pr w K mg base (CXd Pr w) (2 * n) (ad 11) (fd 11) ["_law_links", "_law_one"] (spD K cls 2 (callD tab fns FF n 11))
 i_law : FnOk Pr w K mg base (CXd Pr w) (2 * n) (ad 12) (fd 12) ["_law_script"] (spD K cls 1 (callD tab fns FF n 12))
theorem sc_terms_in : FnScope ["term", "word"] ["term"] (defScope st_terms_in) := ⟨rfl, rfl, rfl, by decide +kernel, rfl, by decide +kernel, by decide +kernel⟩
theorem lv_terms_in_0 : (defScope st_terms_in).names.lookup (Str.ofString "term") = some NameKind.local := by decide +kernel
theorem lv_terms_in_1 : (defScope st_terms_in).names.lookup (Str.ofString "word") = some NameKind.local := by decide +kernel
theorem ok_terms_in {n : Nat} (hw : cls.w = w) (T : Txt K mg ad fd cls) (ih : IH Pr w K mg base ad fd cls FF n) : FnOk Pr w K mg base (CXd Pr w) (2 * (n + 1)) (ad 0) (fd 0) ["term"] (spD K cls 1 (callD tab fns FF (n + 1) 0)) := by
 refine fn_step (m := 2 * n + 1) (body' := c_terms_in) T.f_terms_in sc_terms_in rfl fun cdv A outer s H E hrm => ?_
 have hr := hrm.mono (show 2 * n ≤ 2 * n + 1 by omega)
 have hu := hr.units
 subst hw
 refine ss_cons ?_ ?_
 refine s_set (i := 1) ?_ ?_ ?_ ?_
 exact sc_terms_in.nd
 rfl
 exact Or.inl lv_terms_in_1
 refine sd_ix ?_ ?_ ?_ ?_ ?_ ?_
 rfl
 rfl
 exact hu
 refine sd_var 0 ?_
 exact pv 0 (hv := Or.inl lv_terms_in_0)
 exact sd_int
 intro _ _; rfl
 refine ss_cons ?_ ?_
 refine s_if ?_ ?_ ?_
 refine sdt_eq ?_ ?_ ?_ ?_
 rfl
 exact hu
 refine sd_var 1 ?_
 exact pv 1 (hv := Or.inl lv_terms_in_1)
 exact sd_str
 refine ss_cons ?_ ?_
 refine s_ret ?_
 refine sd_ix ?_ ?_ ?_ ?_ ?_ ?_
 rfl
 rfl
 exact hu
 refine sd_var 0 ?_
 exact pv 0 (hv := Or.inl lv_terms_in_0)
 exact sd_int
 intro _ _; rfl
 exact ss_nil
 exact ss_nil
 refine ss_cons ?_ ?_
 refine s_if ?_ ?_ ?_
 refine sdt_eq ?_ ?_ ?_ ?_
 rfl
 exact hu
 refine sd_var 1 ?_
 exact pv 1 (hv := Or.inl lv_terms_in_1)
 exact sd_str
 refine ss_cons ?_ ?_
 refine s_ret ?_
 refine sd_ix ?_ ?_ ?_ ?_ ?_ ?_
 rfl
 rfl
 exact hu
 refine sd_var 0 ?_
 exact pv 0 (hv := Or.inl lv_terms_in_0)
 exact sd_int
 intro _ _; rfl
 exact ss_nil
 exact ss_nil
 refine ss_cons ?_ ?_
 refine s_if ?_ ?_ ?_
 refine sdt_eq ?_ ?_ ?_ ?_
 rfl
 exact hu
 refine sd_var 1 ?_
 exact pv 1 (hv := Or.inl lv_terms_in_1)
 exact sd_str
 refine ss_cons ?_ ?_
 refine s_ret ?_
 refine sd_sl1 ?_ ?_ ?_
 rfl
 refine sd_var 0 ?_
 exact pv 0 (hv := Or.inl lv_terms_in_0)
 exact sd_int
 exact ss_nil
 exact ss_nil
 refine ss_cons ?_ ?_
 refine s_if ?_ ?_ ?_
 refine sdt_in ?_ ?_ ?_ ?_ ?_
 rfl
 rfl
 exact hu
 refine sd_var 1 ?_
 exact pv 1 (hv := Or.inl lv_terms_in_1)
 refine sd_tup ?_
 refine sdl_cons ?_ ?_
 exact sd_str
 refine sdl_cons ?_ ?_
 exact sd_str
 exact sdl_nil
 refine ss_cons ?_ ?_
 refine s_ret ?_
 refine sd_sl1 ?_ ?_ ?_
 rfl
 refine sd_var 0 ?_
 exact pv 0 (hv := Or.inl lv_terms_in_0)
 exact sd_int
 exact ss_nil
 exact ss_nil
 refine ss_cons ?_ ?_
 refine s_ret ?_
 refine sd_tup ?_
 exact sdl_nil
 exact ss_nil
theorem sc_label_of : FnScope ["term"] ["term"] (defScope st_label_of) := ⟨rfl, rfl, rfl, by decide +kernel, rfl, by decide +kernel, by decide +kernel⟩
theorem lv_label_of_0 : (defScope st_label_of).names.lookup (Str.ofString "term") = some NameKind.local := by decide +kernel
theorem ok_label_of {n : Nat} (hw : cls.w = w) (T : Txt K mg ad fd cls) (ih : IH Pr w K mg base ad fd cls FF n) : FnOk Pr w K mg base (CXd Pr w) (2 * (n + 1)) (ad 1) (fd 1) ["term"] (spD K cls 1 (callD tab fns FF (n + 1) 1)) := by
 refine fn_step (m := 2 * n + 1) (body' := c_label_of) T.f_label_of sc_label_of rfl fun cdv A outer s H E hrm => ?_
 have hr := hrm.mono (show 2 * n ≤ 2 * n + 1 by omega)
 have hu := hr.units
 subst hw
 refine ss_cons ?_ ?_
 refine s_if ?_ ?_ ?_
 refine sdt_in ?_ ?_ ?_ ?_ ?_
 rfl
 rfl
 exact hu
 refine sd_ix ?_ ?_ ?_ ?_ ?_ ?_
 rfl
 rfl
 exact hu
 refine sd_var 0 ?_
 exact pv 0 (hv := Or.inl lv_label_of_0)
 exact sd_int
 intro _ _; rfl
 refine sd_tup ?_
 refine sdl_cons ?_ ?_
 exact sd_str
 refine sdl_cons ?_ ?_
 exact sd_str
 refine sdl_cons ?_ ?_
 exact sd_str
 exact sdl_nil
 refine ss_cons ?_ ?_
 refine s_ret ?_
 refine sd_sl2 ?_ ?_ ?_
 rfl
 refine sd_var 0 ?_
 exact pv 0 (hv := Or.inl lv_label_of_0)
 exact sd_int
 exact ss_nil
 exact ss_nil
 refine ss_cons ?_ ?_
 refine s_ret ?_
 refine sd_sl2 ?_ ?_ ?_
 rfl
 refine sd_var 0 ?_
 exact pv 0 (hv := Or.inl lv_label_of_0)
 exact sd_int
 exact ss_nil
theorem sc_Numbering_9__init__ : FnScope ["self"] ["self"] (defScope st_Numbering_9__init__) := ⟨rfl, rfl, rfl, by decide +kernel, rfl, by decide +kernel, by decide +kernel⟩
theorem lv_Numbering_9__init___0 : (defScope st_Numbering_9__init__).names.lookup (Str.ofString "self") = some NameKind.local := by decide +kernel
theorem ok_Numbering_9__init__ {n : Nat} (hw : cls.w = w) (T : Txt K mg ad fd cls) (ih : IH Pr w K mg base ad fd cls FF n) : FnOk Pr w K mg base (CXd Pr w) (2 * (n + 1)) (ad 2) (fd 2) ["self"] (spD K cls 1 (callD tab fns FF (n + 1) 2)) := by
 refine fn_step (m := 2 * n + 1) (body' := c_Numbering_9__init__) T.f_Numbering_9__init__ sc_Numbering_9__init__ rfl fun cdv A outer s H E hrm => ?_
 have hr := hrm.mono (show 2 * n ≤ 2 * n + 1 by omega)
 have hu := hr.units
 subst hw
 refine ss_cons ?_ ?_
 refine s_setf T.cl_Numbering T.na_Numbering_terms ?_ ?_
 refine sd_var 0 ?_
 exact pv 0 (hv := Or.inl lv_Numbering_9__init___0)
 refine sd_lst ?_
 exact sdl_nil
 refine ss_cons ?_ ?_
 refine s_setf T.cl_Numbering T.na_Numbering_numbers ?_ ?_
 refine sd_var 0 ?_
 exact pv 0 (hv := Or.inl lv_Numbering_9__init___0)
 refine sd_dnewN ?_
 rfl
 exact ss_nil
theorem sc_Numbering_9number : FnScope ["self", "term", "key"] ["self", "term"] (defScope st_Numbering_9number) := ⟨rfl, rfl, rfl, by decide +kernel, rfl, by decide +kernel, by decide +kernel⟩
theorem lv_Numbering_9number_0 : (defScope st_Numbering_9number).names.lookup (Str.ofString "self") = some NameKind.cell := by decide +kernel
theorem lv_Numbering_9number_1 : (defScope st_Numbering_9number).names.lookup (Str.ofString "term") = some NameKind.local := by decide +kernel
theorem lv_Numbering_9number_2 : (defScope st_Numbering_9number).names.lookup (Str.ofString "key") = some NameKind.local := by decide +kernel
theorem ok_Numbering_9number {n : Nat} (hw : cls.w = w) (T : Txt K mg ad fd cls) (ih : IH Pr w K mg base ad fd cls FF n) : FnOk Pr w K mg base (CXd Pr w) (2 * (n + 1)) (ad 3) (fd 3) ["self", "term"] (spD K cls 2 (callD tab fns FF (n + 1) 3)) := by
 refine fn_step (m := 2 * n + 1) (body' := c_Numbering_9number) T.f_Numbering_9number sc_Numbering_9number rfl fun cdv A outer s H E hrm => ?_
 have hr := hrm.mono (show 2 * n ≤ 2 * n + 1 by omega)
 have hu := hr.units
 subst hw
 refine ss_cons ?_ ?_
 refine s_set (i := 2) ?_ ?_ ?_ ?_
 exact sc_Numbering_9number.nd
 rfl
 exact Or.inl lv_Numbering_9number_2
 refine sd_tup ?_
 refine sdl_cons ?_ ?_
 refine sd_call ih.i_label_of hr (by rfl) T.m_label_of T.f_label_of.kp T.b_label_of .nil (fun _ _ => by simp [DD.RepL, DD.Rep]) pass_def (callD_len rfl) ?_
 refine sdl_cons ?_ ?_
 refine sd_var 1 ?_
 exact pv 1 (hv := Or.inl lv_Numbering_9number_1)
 exact sdl_nil
 refine sdl_cons ?_ ?_
 refine sd_tuple ?_ ?_ T.z_tuple ?_
 rfl
 rfl
 refine sdl_cons ?_ ?_
 refine sd_compG (cl := [(Str.ofString "self", s.heap.objs.size + 1)]) (N := ["part", "self"]) (nl := 1) (fv := [0]) (tgs := [0]) (one := true) (k := 1) ?_ ?_ ?_ ?_ ?_ ?_ ?_ ?_ ?_ ?_ ?_ ?_ ?_ ?_
 rfl
 rfl
 rfl
 decide
 decide
 rfl
 refine clos_of ?_ ?_
 exact ⟨rfl, trivial⟩
 rfl
 rfl
 refine fv_of ?_
 exact ⟨⟨_, _, rfl, rfl, rfl, by first | exact Or.inl rfl | exact Or.inr rfl, by first | exact Or.inl rfl | exact Or.inr rfl⟩, trivial⟩
 decide
 refine si_tup ?_ ?_
 rfl
 refine sd_call ih.i_terms_in hr (by rfl) T.m_terms_in T.f_terms_in.kp T.b_terms_in .nil (fun _ _ => by simp [DD.RepL, DD.Rep]) pass_def (callD_len rfl) ?_
 refine sdl_cons ?_ ?_
 refine sd_var 1 ?_
 exact pv 1 (hv := Or.inl lv_Numbering_9number_1)
 exact sdl_nil
 intro L s0 H0 fp pn
 refine tg_one ?_ ?_ ?_ ?_
 show List.Nodup (["part", "self"] : List Str); decide
 rfl
 exact Or.inl rfl
 refine Or.inr ?_
 exact rfl
 intro L s0 H0 fp pn
 exact pts_nil
 intro L s0 H0 fp pn
 refine sd_meth (k := 2 * n) (np := 2) T.cl_Numbering T.me_Numbering_number ?_ ?_ T.b_Numbering_9number ?_ ?_ ?_ ?_
 exact ih.i_Numbering_9number
 exact hr
 exact passF
 exact callD_len rfl
 refine sd_var 1 ?_
 exact pv 1 (hv := by first | exact Or.inl rfl | exact Or.inr (Or.inl rfl) | exact Or.inr (Or.inr rfl))
 refine sdl_cons ?_ ?_
 refine sd_var 0 ?_
 exact pv 0 (hv := by first | exact Or.inl rfl | exact Or.inr (Or.inl rfl) | exact Or.inr (Or.inr rfl))
 exact sdl_nil
 exact sdl_nil
 exact sdl_nil
 refine ss_cons ?_ ?_
 refine s_if ?_ ?_ ?_
 refine sdt_notIn ?_ ?_ ?_ ?_ ?_
 rfl
 rfl
 exact hu
 refine sd_var 2 ?_
 exact pv 2 (hv := Or.inl lv_Numbering_9number_2)
 refine sd_fld T.cl_Numbering T.na_Numbering_numbers ?_
 refine sd_var 0 ?_
 exact pv 0 (hv := Or.inr (Or.inl lv_Numbering_9number_0))
 refine ss_cons ?_ ?_
 refine s_dput ?_ ?_ ?_ ?_ ?_ ?_
 rfl
 rfl
 exact hu
 refine sd_fld T.cl_Numbering T.na_Numbering_numbers ?_
 refine sd_var 0 ?_
 exact pv 0 (hv := Or.inr (Or.inl lv_Numbering_9number_0))
 refine sd_var 2 ?_
 exact pv 2 (hv := Or.inl lv_Numbering_9number_2)
 refine sd_len ?_ ?_ T.z_len ?_
 rfl
 rfl
 refine sdl_cons ?_ ?_
 refine sd_fld T.cl_Numbering T.na_Numbering_terms ?_
 refine sd_var 0 ?_
 exact pv 0 (hv := Or.inr (Or.inl lv_Numbering_9number_0))
 exact sdl_nil
 refine ss_cons ?_ ?_
 refine s_ex ?_
 refine sd_append ?_ ?_ ?_
 rfl
 refine sd_fld T.cl_Numbering T.na_Numbering_terms ?_
 refine sd_var 0 ?_
 exact pv 0 (hv := Or.inr (Or.inl lv_Numbering_9number_0))
 refine sd_var 1 ?_
 exact pv 1 (hv := Or.inl lv_Numbering_9number_1)
 exact ss_nil
 exact ss_nil
 refine ss_cons ?_ ?_
 refine s_ret ?_
 refine sd_ix ?_ ?_ ?_ ?_ ?_ ?_
 rfl
 rfl
 exact hu
 refine sd_fld T.cl_Numbering T.na_Numbering_numbers ?_
 refine sd_var 0 ?_
 exact pv 0 (hv := Or.inr (Or.inl lv_Numbering_9number_0))
 refine sd_var 2 ?_
 exact pv 2 (hv := Or.inl lv_Numbering_9number_2)
 intro _ _; rfl
 exact ss_nil
theorem sc_ways_of : FnScope ["numbering", "links"] ["numbering", "links"] (defScope st_ways_of) := ⟨rfl, rfl, rfl, by decide +kernel, rfl, by decide +kernel, by decide +kernel⟩
theorem lv_ways_of_1 : (defScope st_ways_of).names.lookup (Str.ofString "links") = some NameKind.local := by decide +kernel
theorem ok_ways_of {n : Nat} (hw : cls.w = w) (T : Txt K mg ad fd cls) (ih : IH Pr w K mg base ad fd cls FF n) : FnOk Pr w K mg base (CXd Pr w) (2 * (n + 1)) (ad 4) (fd 4) ["numbering", "links"] (spD K cls 2 (callD tab fns FF (n + 1) 4)) := by
 refine fn_step (m := 2 * n + 1) (body' := c_ways_of) T.f_ways_of sc_ways_of rfl fun cdv A outer s H E hrm => ?_
 have hr := hrm.mono (show 2 * n ≤ 2 * n + 1 by omega)
 have hu := hr.units
 subst hw
 refine ss_cons ?_ ?_
 refine s_ret ?_
 refine sd_call ih.i_ways_of_numbers hr (by rfl) T.m_ways_of_numbers T.f_ways_of_numbers.kp T.b_ways_of_numbers .nil (fun _ _ => by simp [DD.RepL, DD.Rep]) pass_def (callD_len rfl) ?_
 refine sdl_cons ?_ ?_
 refine sd_compG (cl := [(Str.ofString "numbering", s.heap.objs.size + 1)]) (N := ["mark", "one", "other", "numbering"]) (nl := 3) (fv := [0]) (tgs := [0, 1, 2]) (one := false) (k := 0) ?_ ?_ ?_ ?_ ?_ ?_ ?_ ?_ ?_ ?_ ?_ ?_ ?_ ?_
 rfl
 rfl
 rfl
 decide
 decide
 rfl
 refine clos_of ?_ ?_
 exact ⟨rfl, trivial⟩
 rfl
 rfl
 refine fv_of ?_
 exact ⟨⟨_, _, rfl, rfl, rfl, by first | exact Or.inl rfl | exact Or.inr rfl, by first | exact Or.inl rfl | exact Or.inr rfl⟩, trivial⟩
 decide
 refine si_list ?_ ?_
 rfl
 refine sd_var 1 ?_
 exact pv 1 (hv := Or.inl lv_ways_of_1)
 intro L s0 H0 fp pn
 refine pg_tup ?_ ?_
 rfl
 refine pgs_cons ?_ ?_
 refine pg_name (i := 0) ?_ ?_ ?_ ?_
 show List.Nodup (["mark", "one", "other", "numbering"] : List Str); decide
 rfl
 exact Or.inl rfl
 refine Or.inr ?_
 exact rfl
 refine pgs_cons ?_ ?_
 refine pg_name (i := 1) ?_ ?_ ?_ ?_
 show List.Nodup (["mark", "one", "other", "numbering"] : List Str); decide
 rfl
 exact Or.inl rfl
 refine Or.inr ?_
 exact rfl
 refine pgs_cons ?_ ?_
 refine pg_name (i := 2) ?_ ?_ ?_ ?_
 show List.Nodup (["mark", "one", "other", "numbering"] : List Str); decide
 rfl
 exact Or.inl rfl
 refine Or.inr ?_
 exact rfl
 exact pgs_nil
 intro L s0 H0 fp pn
 exact pts_nil
 intro L s0 H0 fp pn
 refine sd_tup ?_
 refine sdl_cons ?_ ?_
 refine sd_var 0 ?_
 exact pv 0 (hv := by first | exact Or.inl rfl | exact Or.inr (Or.inl rfl) | exact Or.inr (Or.inr rfl))
 refine sdl_cons ?_ ?_
 refine sd_meth (k := 2 * n) (np := 2) T.cl_Numbering T.me_Numbering_number ?_ ?_ T.b_Numbering_9number ?_ ?_ ?_ ?_
 exact ih.i_Numbering_9number
 exact hr
 exact passF
 exact callD_len rfl
 refine sd_var 3 ?_
 exact pv 3 (hv := by first | exact Or.inl rfl | exact Or.inr (Or.inl rfl) | exact Or.inr (Or.inr rfl))
 refine sdl_cons ?_ ?_
 refine sd_var 1 ?_
 exact pv 1 (hv := by first | exact Or.inl rfl | exact Or.inr (Or.inl rfl) | exact Or.inr (Or.inr rfl))
 exact sdl_nil
 refine sdl_cons ?_ ?_
 refine sd_meth (k := 2 * n) (np := 2) T.cl_Numbering T.me_Numbering_number ?_ ?_ T.b_Numbering_9number ?_ ?_ ?_ ?_
 exact ih.i_Numbering_9number
 exact hr
 exact passF
 exact callD_len rfl
 refine sd_var 3 ?_
 exact pv 3 (hv := by first | exact Or.inl rfl | exact Or.inr (Or.inl rfl) | exact Or.inr (Or.inr rfl))
 refine sdl_cons ?_ ?_
 refine sd_var 2 ?_
 exact pv 2 (hv := by first | exact Or.inl rfl | exact Or.inr (Or.inl rfl) | exact Or.inr (Or.inr rfl))
 exact sdl_nil
 exact sdl_nil
 exact sdl_nil
 exact ss_nil
theorem sc_ways_of_numbers : FnScope ["links", "ways", "mark", "one", "other"] ["links"] (defScope st_ways_of_numbers) := ⟨rfl, rfl, rfl, by decide +kernel, rfl, by decide +kernel, by decide +kernel⟩
theorem lv_ways_of_numbers_0 : (defScope st_ways_of_numbers).names.lookup (Str.ofString "links") = some NameKind.local := by decide +kernel
theorem lv_ways_of_numbers_1 : (defScope st_ways_of_numbers).names.lookup (Str.ofString "ways") = some NameKind.local := by decide +kernel
theorem lv_ways_of_numbers_2 : (defScope st_ways_of_numbers).names.lookup (Str.ofString "mark") = some NameKind.local := by decide +kernel
theorem lv_ways_of_numbers_3 : (defScope st_ways_of_numbers).names.lookup (Str.ofString "one") = some NameKind.local := by decide +kernel
theorem lv_ways_of_numbers_4 : (defScope st_ways_of_numbers).names.lookup (Str.ofString "other") = some NameKind.local := by decide +kernel
theorem ok_ways_of_numbers {n : Nat} (hw : cls.w = w) (T : Txt K mg ad fd cls) (ih : IH Pr w K mg base ad fd cls FF n) : FnOk Pr w K mg base (CXd Pr w) (2 * (n + 1)) (ad 5) (fd 5) ["links"] (spD K cls 1 (callD tab fns FF (n + 1) 5)) := by
 refine fn_step (m := 2 * n + 1) (body' := c_ways_of_numbers) T.f_ways_of_numbers sc_ways_of_numbers rfl fun cdv A outer s H E hrm => ?_
 have hr := hrm.mono (show 2 * n ≤ 2 * n + 1 by omega)
 have hu := hr.units
 subst hw
 refine ss_cons ?_ ?_
 refine s_set (i := 1) ?_ ?_ ?_ ?_
 exact sc_ways_of_numbers.nd
 rfl
 exact Or.inl lv_ways_of_numbers_1
 exact sd_dnew
 refine ss_cons ?_ ?_
 refine s_forL (is := [2, 3, 4]) ?_ ?_ ?_ ?_ ?_ ?_
 rfl
 exact PassesOwn.leaving
 rfl
 refine sd_var 0 ?_
 exact pv 0 (hv := Or.inl lv_ways_of_numbers_0)
 refine pg_tup ?_ ?_
 rfl
 refine pgs_cons ?_ ?_
 refine pg_name (i := 2) ?_ ?_ ?_
 exact sc_ways_of_numbers.nd
 rfl
 exact Or.inl lv_ways_of_numbers_2
 refine pgs_cons ?_ ?_
 refine pg_name (i := 3) ?_ ?_ ?_
 exact sc_ways_of_numbers.nd
 rfl
 exact Or.inl lv_ways_of_numbers_3
 refine pgs_cons ?_ ?_
 refine pg_name (i := 4) ?_ ?_ ?_
 exact sc_ways_of_numbers.nd
 rfl
 exact Or.inl lv_ways_of_numbers_4
 exact pgs_nil
 refine ss_cons ?_ ?_
 refine s_ex ?_
 refine sd_append ?_ ?_ ?_
 rfl
 refine sd_sdef ?_ ?_ ?_
 refine sd_var 1 ?_
 exact pv 1 (hv := Or.inl lv_ways_of_numbers_1)
 refine sd_var 3 ?_
 exact pv 3 (hv := Or.inl lv_ways_of_numbers_3)
 refine sd_lst ?_
 exact sdl_nil
 refine sd_tup ?_
 refine sdl_cons ?_ ?_
 refine sd_var 2 ?_
 exact pv 2 (hv := Or.inl lv_ways_of_numbers_2)
 refine sdl_cons ?_ ?_
 refine sd_var 4 ?_
 exact pv 4 (hv := Or.inl lv_ways_of_numbers_4)
 exact sdl_nil
 refine ss_cons ?_ ?_
 refine s_ex ?_
 refine sd_append ?_ ?_ ?_
 rfl
 refine sd_sdef ?_ ?_ ?_
 refine sd_var 1 ?_
 exact pv 1 (hv := Or.inl lv_ways_of_numbers_1)
 refine sd_var 4 ?_
 exact pv 4 (hv := Or.inl lv_ways_of_numbers_4)
 refine sd_lst ?_
 exact sdl_nil
 refine sd_tup ?_
 refine sdl_cons ?_ ?_
 refine sd_var 2 ?_
 exact pv 2 (hv := Or.inl lv_ways_of_numbers_2)
 refine sdl_cons ?_ ?_
 refine sd_var 3 ?_
 exact pv 3 (hv := Or.inl lv_ways_of_numbers_3)
 exact sdl_nil
 exact ss_nil
 refine ss_cons ?_ ?_
 refine s_ret ?_
 refine sd_var 1 ?_
 exact pv 1 (hv := Or.inl lv_ways_of_numbers_1)
 exact ss_nil
theorem sc_reached_from : FnScope ["ways", "start", "reached", "waiting", "at", "here", "mark", "end"] ["ways", "start"] (defScope st_reached_from) := ⟨rfl, rfl, rfl, by decide +kernel, rfl, by decide +kernel, by decide +kernel⟩
theorem lv_reached_from_0 : (defScope st_reached_from).names.lookup (Str.ofString "ways") = some NameKind.local := by decide +kernel
theorem lv_reached_from_1 : (defScope st_reached_from).names.lookup (Str.ofString "start") = some NameKind.local := by decide +kernel
theorem lv_reached_from_2 : (defScope st_reached_from).names.lookup (Str.ofString "reached") = some NameKind.local := by decide +kernel
theorem lv_reached_from_3 : (defScope st_reached_from).names.lookup (Str.ofString "waiting") = some NameKind.local := by decide +kernel
theorem lv_reached_from_4 : (defScope st_reached_from).names.lookup (Str.ofString "at") = some NameKind.local := by decide +kernel
theorem lv_reached_from_5 : (defScope st_reached_from).names.lookup (Str.ofString "here") = some NameKind.local := by decide +kernel
theorem lv_reached_from_6 : (defScope st_reached_from).names.lookup (Str.ofString "mark") = some NameKind.local := by decide +kernel
theorem lv_reached_from_7 : (defScope st_reached_from).names.lookup (Str.ofString "end") = some NameKind.local := by decide +kernel
theorem ok_reached_from {n : Nat} (hw : cls.w = w) (T : Txt K mg ad fd cls) (ih : IH Pr w K mg base ad fd cls FF n) : FnOk Pr w K mg base (CXd Pr w) (2 * (n + 1)) (ad 6) (fd 6) ["ways", "start"] (spD K cls 2 (callD tab fns FF (n + 1) 6)) := by
 refine fn_step (m := 2 * n + 1) (body' := c_reached_from) T.f_reached_from sc_reached_from rfl fun cdv A outer s H E hrm => ?_
 have hr := hrm.mono (show 2 * n ≤ 2 * n + 1 by omega)
 have hu := hr.units
 subst hw
 refine ss_cons ?_ ?_
 refine s_set (i := 2) ?_ ?_ ?_ ?_
 exact sc_reached_from.nd
 rfl
 exact Or.inl lv_reached_from_2
 refine sd_disp1 ?_ ?_
 refine sd_var 1 ?_
 exact pv 1 (hv := Or.inl lv_reached_from_1)
 exact sd_non
 refine ss_cons ?_ ?_
 refine s_set (i := 3) ?_ ?_ ?_ ?_
 exact sc_reached_from.nd
 rfl
 exact Or.inl lv_reached_from_3
 refine sd_lst ?_
 refine sdl_cons ?_ ?_
 refine sd_var 1 ?_
 exact pv 1 (hv := Or.inl lv_reached_from_1)
 exact sdl_nil
 refine ss_cons ?_ ?_
 refine s_set (i := 4) ?_ ?_ ?_ ?_
 exact sc_reached_from.nd
 rfl
 exact Or.inl lv_reached_from_4
 exact sd_int
 refine ss_cons ?_ ?_
 refine s_while ?_ ?_ ?_
 exact PassesOwn.leaving
 refine sdt_lt ?_ ?_
 refine sd_var 4 ?_
 exact pv 4 (hv := Or.inl lv_reached_from_4)
 refine sd_len ?_ ?_ T.z_len ?_
 rfl
 rfl
 refine sdl_cons ?_ ?_
 refine sd_var 3 ?_
 exact pv 3 (hv := Or.inl lv_reached_from_3)
 exact sdl_nil
 refine ss_cons ?_ ?_
 refine s_set (i := 5) ?_ ?_ ?_ ?_
 exact sc_reached_from.nd
 rfl
 exact Or.inl lv_reached_from_5
 refine sd_ix ?_ ?_ ?_ ?_ ?_ ?_
 rfl
 rfl
 exact hu
 refine sd_var 3 ?_
 exact pv 3 (hv := Or.inl lv_reached_from_3)
 refine sd_var 4 ?_
 exact pv 4 (hv := Or.inl lv_reached_from_4)
 intro _ _; rfl
 refine ss_cons ?_ ?_
 refine s_forL (is := [6, 7]) ?_ ?_ ?_ ?_ ?_ ?_
 rfl
 exact PassesOwn.leaving
 rfl
 refine sd_get2 ?_ ?_ ?_ ?_ ?_
 exact hu
 refine sd_var 0 ?_
 exact pv 0 (hv := Or.inl lv_reached_from_0)
 refine sd_var 5 ?_
 exact pv 5 (hv := Or.inl lv_reached_from_5)
 refine sd_lst ?_
 exact sdl_nil
 exact ⟨by rfl, by rfl, by rfl, by rfl⟩
 refine pg_tup ?_ ?_
 rfl
 refine pgs_cons ?_ ?_
 refine pg_name (i := 6) ?_ ?_ ?_
 exact sc_reached_from.nd
 rfl
 exact Or.inl lv_reached_from_6
 refine pgs_cons ?_ ?_
 refine pg_name (i := 7) ?_ ?_ ?_
 exact sc_reached_from.nd
 rfl
 exact Or.inl lv_reached_from_7
 exact pgs_nil
 refine ss_cons ?_ ?_
 refine s_if ?_ ?_ ?_
 refine sdt_notIn ?_ ?_ ?_ ?_ ?_
 rfl
 rfl
 exact hu
 refine sd_var 7 ?_
 exact pv 7 (hv := Or.inl lv_reached_from_7)
 refine sd_var 2 ?_
 exact pv 2 (hv := Or.inl lv_reached_from_2)
 refine ss_cons ?_ ?_
 refine s_dput ?_ ?_ ?_ ?_ ?_ ?_
 rfl
 rfl
 exact hu
 refine sd_var 2 ?_
 exact pv 2 (hv := Or.inl lv_reached_from_2)
 refine sd_var 7 ?_
 exact pv 7 (hv := Or.inl lv_reached_from_7)
 refine sd_tup ?_
 refine sdl_cons ?_ ?_
 refine sd_var 6 ?_
 exact pv 6 (hv := Or.inl lv_reached_from_6)
 refine sdl_cons ?_ ?_
 refine sd_var 5 ?_
 exact pv 5 (hv := Or.inl lv_reached_from_5)
 exact sdl_nil
 refine ss_cons ?_ ?_
 refine s_ex ?_
 refine sd_append ?_ ?_ ?_
 rfl
 refine sd_var 3 ?_
 exact pv 3 (hv := Or.inl lv_reached_from_3)
 refine sd_var 7 ?_
 exact pv 7 (hv := Or.inl lv_reached_from_7)
 exact ss_nil
 exact ss_nil
 exact ss_nil
 refine ss_cons ?_ ?_
 refine s_augAdd (i := 4) ?_ ?_ ?_ ?_
 exact sc_reached_from.nd
 rfl
 exact Or.inl lv_reached_from_4
 exact sd_int
 exact ss_nil
 refine ss_cons ?_ ?_
 refine s_ret ?_
 refine sd_var 2 ?_
 exact pv 2 (hv := Or.inl lv_reached_from_2)
 exact ss_nil
theorem sc_classes : FnScope ["terms", "links", "numbering", "ways", "first", "term"] ["terms", "links"] (defScope st_classes) := ⟨rfl, rfl, rfl, by decide +kernel, rfl, by decide +kernel, by decide +kernel⟩
theorem lv_classes_0 : (defScope st_classes).names.lookup (Str.ofString "terms") = some NameKind.local := by decide +kernel
theorem lv_classes_1 : (defScope st_classes).names.lookup (Str.ofString "links") = some NameKind.local := by decide +kernel
theorem lv_classes_2 : (defScope st_classes).names.lookup (Str.ofString "numbering") = some NameKind.cell := by decide +kernel
theorem lv_classes_3 : (defScope st_classes).names.lookup (Str.ofString "ways") = some NameKind.local := by decide +kernel
theorem lv_classes_4 : (defScope st_classes).names.lookup (Str.ofString "first") = some NameKind.cell := by decide +kernel
theorem lv_classes_5 : (defScope st_classes).names.lookup (Str.ofString "term") = some NameKind.cell := by decide +kernel
theorem ok_classes {n : Nat} (hw : cls.w = w) (T : Txt K mg ad fd cls) (ih : IH Pr w K mg base ad fd cls FF n) : FnOk Pr w K mg base (CXd Pr w) (2 * (n + 1)) (ad 7) (fd 7) ["terms", "links"] (spD K cls 2 (callD tab fns FF (n + 1) 7)) := by
 refine fn_step (m := 2 * n + 1) (body' := c_classes) T.f_classes sc_classes rfl fun cdv A outer s H E hrm => ?_
 have hr := hrm.mono (show 2 * n ≤ 2 * n + 1 by omega)
 have hu := hr.units
 subst hw
 refine ss_cons ?_ ?_
 refine s_set (i := 2) ?_ ?_ ?_ ?_
 exact sc_classes.nd
 rfl
 refine Or.inr ?_
 exact lv_classes_2
 refine sd_mk0 (k := 2 * n) (np := 1) T.k_Numbering ?_ ?_ ?_ T.mc_Numbering T.b_Numbering_9__init__ ?_ ?_
 exact ih.i_Numbering_9__init__
 exact hrm
 rfl
 exact pass_def
 exact callD_len rfl
 refine ss_cons ?_ ?_
 refine s_set (i := 3) ?_ ?_ ?_ ?_
 exact sc_classes.nd
 rfl
 exact Or.inl lv_classes_3
 refine sd_call ih.i_ways_of hr (by rfl) T.m_ways_of T.f_ways_of.kp T.b_ways_of .nil (fun _ _ => by simp [DD.RepL, DD.Rep]) pass_def (callD_len rfl) ?_
 refine sdl_cons ?_ ?_
 refine sd_var 2 ?_
 exact pv 2 (hv := Or.inr (Or.inl lv_classes_2))
 refine sdl_cons ?_ ?_
 refine sd_var 1 ?_
 exact pv 1 (hv := Or.inl lv_classes_1)
 exact sdl_nil
 refine ss_cons ?_ ?_
 refine s_set (i := 4) ?_ ?_ ?_ ?_
 exact sc_classes.nd
 rfl
 refine Or.inr ?_
 exact lv_classes_4
 exact sd_dnew
 refine ss_cons ?_ ?_
 refine s_forL (is := [5]) ?_ ?_ ?_ ?_ ?_ ?_
 rfl
 exact PassesOwn.leaving
 rfl
 refine sd_var 0 ?_
 exact pv 0 (hv := Or.inl lv_classes_0)
 refine tg_one ?_ ?_ ?_
 exact sc_classes.nd
 rfl
 refine Or.inr ?_
 exact lv_classes_5
 refine ss_cons ?_ ?_
 refine s_if ?_ ?_ ?_
 refine sdt_notIn ?_ ?_ ?_ ?_ ?_
 rfl
 rfl
 exact hu
 refine sd_meth (k := 2 * n) (np := 2) T.cl_Numbering T.me_Numbering_number ?_ ?_ T.b_Numbering_9number ?_ ?_ ?_ ?_
 exact ih.i_Numbering_9number
 exact hr
 exact pass_def
 exact callD_len rfl
 refine sd_var 2 ?_
 exact pv 2 (hv := Or.inr (Or.inl lv_classes_2))
 refine sdl_cons ?_ ?_
 refine sd_var 5 ?_
 exact pv 5 (hv := Or.inr (Or.inl lv_classes_5))
 exact sdl_nil
 refine sd_var 4 ?_
 exact pv 4 (hv := Or.inr (Or.inl lv_classes_4))
 refine ss_cons ?_ ?_
 refine s_ex ?_
 refine sd_upd ?_ ?_
 refine sd_var 4 ?_
 exact pv 4 (hv := Or.inr (Or.inl lv_classes_4))
 refine sd_dcompG (cl := [(Str.ofString "term", s.heap.objs.size + 3)]) (N := ["number", "term"]) (nl := 1) (fv := [5]) (tgs := [0]) (one := true) (k := 4) ?_ ?_ ?_ ?_ ?_ ?_ ?_ ?_ ?_ ?_ ?_ ?_ ?_ ?_ ?_
 rfl
 rfl
 rfl
 decide
 decide
 rfl
 refine clos_of ?_ ?_
 exact ⟨rfl, trivial⟩
 rfl
 rfl
 refine fv_of ?_
 exact ⟨⟨_, _, rfl, rfl, rfl, by first | exact Or.inl rfl | exact Or.inr rfl, by first | exact Or.inl rfl | exact Or.inr rfl⟩, trivial⟩
 decide
 refine si_keys ?_
 refine sd_call ih.i_reached_from hr (by rfl) T.m_reached_from T.f_reached_from.kp T.b_reached_from .nil (fun _ _ => by simp [DD.RepL, DD.Rep]) pass_def (callD_len rfl) ?_
 refine sdl_cons ?_ ?_
 refine sd_var 3 ?_
 exact pv 3 (hv := Or.inl lv_classes_3)
 refine sdl_cons ?_ ?_
 refine sd_meth (k := 2 * n) (np := 2) T.cl_Numbering T.me_Numbering_number ?_ ?_ T.b_Numbering_9number ?_ ?_ ?_ ?_
 exact ih.i_Numbering_9number
 exact hr
 exact pass_def
 exact callD_len rfl
 refine sd_var 2 ?_
 exact pv 2 (hv := Or.inr (Or.inl lv_classes_2))
 refine sdl_cons ?_ ?_
 refine sd_var 5 ?_
 exact pv 5 (hv := Or.inr (Or.inl lv_classes_5))
 exact sdl_nil
 exact sdl_nil
 intro L s0 H0 fp pn
 refine tg_one ?_ ?_ ?_ ?_
 show List.Nodup (["number", "term"] : List Str); decide
 rfl
 exact Or.inl rfl
 refine Or.inr ?_
 exact rfl
 intro L s0 H0 fp pn
 exact pts_nil
 intro L s0 H0 fp pn
 refine sd_var 0 ?_
 exact pv 0 (hv := by first | exact Or.inl rfl | exact Or.inr (Or.inl rfl) | exact Or.inr (Or.inr rfl))
 intro L s0 H0 fp pn
 refine sd_var 1 ?_
 exact pv 1 (hv := by first | exact Or.inl rfl | exact Or.inr (Or.inl rfl) | exact Or.inr (Or.inr rfl))
 exact ss_nil
 exact ss_nil
 exact ss_nil
 refine ss_cons ?_ ?_
 refine s_ret ?_
 refine sd_dcompN (cl := [(Str.ofString "numbering", s.heap.objs.size + 1), (Str.ofString "first", s.heap.objs.size + 2)]) (N := ["term", "first", "numbering"]) (nl := 1) (fv := [4, 2]) (tgs := [0]) (one := true) (k := 0) ?_ ?_ ?_ ?_ ?_ ?_ ?_ ?_ ?_ ?_ ?_ ?_ ?_ ?_ ?_ ?_ ?_
 rfl
 rfl
 exact hu
 rfl
 rfl
 decide
 decide
 rfl
 refine clos_of ?_ ?_
 exact ⟨rfl, rfl, trivial⟩
 rfl
 rfl
 refine fv_of ?_
 exact ⟨⟨_, _, rfl, rfl, rfl, by first | exact Or.inl rfl | exact Or.inr rfl, by first | exact Or.inl rfl | exact Or.inr rfl⟩, ⟨_, _, rfl, rfl, rfl, by first | exact Or.inl rfl | exact Or.inr rfl, by first | exact Or.inl rfl | exact Or.inr rfl⟩, trivial⟩
 decide
 refine si_list ?_ ?_
 rfl
 refine sd_var 0 ?_
 exact pv 0 (hv := Or.inl lv_classes_0)
 intro L s0 H0 fp pn
 refine tg_one ?_ ?_ ?_ ?_
 show List.Nodup (["term", "first", "numbering"] : List Str); decide
 rfl
 exact Or.inl rfl
 refine Or.inr ?_
 exact rfl
 intro L s0 H0 fp pn
 exact pts_nil
 intro L s0 H0 fp pn
 refine sd_var 0 ?_
 exact pv 0 (hv := by first | exact Or.inl rfl | exact Or.inr (Or.inl rfl) | exact Or.inr (Or.inr rfl))
 intro L s0 H0 fp pn
 refine sd_ix ?_ ?_ ?_ ?_ ?_ ?_
 rfl
 rfl
 exact hu
 refine sd_var 1 ?_
 exact pv 1 (hv := by first | exact Or.inl rfl | exact Or.inr (Or.inl rfl) | exact Or.inr (Or.inr rfl))
 refine sd_meth (k := 2 * n) (np := 2) T.cl_Numbering T.me_Numbering_number ?_ ?_ T.b_Numbering_9number ?_ ?_ ?_ ?_
 exact ih.i_Numbering_9number
 exact hr
 exact passF
 exact callD_len rfl
 refine sd_var 2 ?_
 exact pv 2 (hv := by first | exact Or.inl rfl | exact Or.inr (Or.inl rfl) | exact Or.inr (Or.inr rfl))
 refine sdl_cons ?_ ?_
 refine sd_var 0 ?_
 exact pv 0 (hv := by first | exact Or.inl rfl | exact Or.inr (Or.inl rfl) | exact Or.inr (Or.inr rfl))
 exact sdl_nil
 intro _ _; rfl
 exact ss_nil
theorem sc__law_cell_at : FnScope ["_law_script", "_law_k"] ["_law_script", "_law_k"] (defScope st__law_cell_at) := ⟨rfl, rfl, rfl, by decide +kernel, rfl, by decide +kernel, by decide +kernel⟩
theorem lv__law_cell_at_0 : (defScope st__law_cell_at).names.lookup (Str.ofString "_law_script") = some NameKind.local := by decide +kernel
theorem lv__law_cell_at_1 : (defScope st__law_cell_at).names.lookup (Str.ofString "_law_k") = some NameKind.local := by decide +kernel
theorem ok__law_cell_at {n : Nat} (hw : cls.w = w) (T : Txt K mg ad fd cls) (ih : IH Pr w K mg base ad fd cls FF n) : FnOk Pr w K mg base (CXd Pr w) (2 * (n + 1)) (ad 8) (fd 8) ["_law_script", "_law_k"] (spD K cls 2 (callD tab fns FF (n + 1) 8)) := by
 refine fn_step (m := 2 * n + 1) (body' := c__law_cell_at) T.f__law_cell_at sc__law_cell_at rfl fun cdv A outer s H E hrm => ?_
 have hr := hrm.mono (show 2 * n ≤ 2 * n + 1 by omega)
 have hu := hr.units
 subst hw
 refine ss_cons ?_ ?_
 refine s_if ?_ ?_ ?_
 refine sdt_lt ?_ ?_
 refine sd_var 1 ?_
 exact pv 1 (hv := Or.inl lv__law_cell_at_1)
 refine sd_len ?_ ?_ T.z_len ?_
 rfl
 rfl
 refine sdl_cons ?_ ?_
 refine sd_var 0 ?_
 exact pv 0 (hv := Or.inl lv__law_cell_at_0)
 exact sdl_nil
 refine ss_cons ?_ ?_
 refine s_ret ?_
 refine sd_ix ?_ ?_ ?_ ?_ ?_ ?_
 rfl
 rfl
 exact hu
 refine sd_var 0 ?_
 exact pv 0 (hv := Or.inl lv__law_cell_at_0)
 refine sd_var 1 ?_
 exact pv 1 (hv := Or.inl lv__law_cell_at_1)
 intro _ _; rfl
 exact ss_nil
 exact ss_nil
 refine ss_cons ?_ ?_
 refine s_ret ?_
 exact sd_int
 exact ss_nil
theorem sc__law_stream : FnScope ["_law_cell", "_law_many", "_law_found", "_law_number", "_law_k"] ["_law_cell", "_law_many"] (defScope st__law_stream) := ⟨rfl, rfl, rfl, by decide +kernel, rfl, by decide +kernel, by decide +kernel⟩
theorem lv__law_stream_0 : (defScope st__law_stream).names.lookup (Str.ofString "_law_cell") = some NameKind.local := by decide +kernel
theorem lv__law_stream_1 : (defScope st__law_stream).names.lookup (Str.ofString "_law_many") = some NameKind.local := by decide +kernel
theorem lv__law_stream_2 : (defScope st__law_stream).names.lookup (Str.ofString "_law_found") = some NameKind.local := by decide +kernel
theorem lv__law_stream_3 : (defScope st__law_stream).names.lookup (Str.ofString "_law_number") = some NameKind.local := by decide +kernel
theorem lv__law_stream_4 : (defScope st__law_stream).names.lookup (Str.ofString "_law_k") = some NameKind.local := by decide +kernel
theorem ok__law_stream {n : Nat} (hw : cls.w = w) (T : Txt K mg ad fd cls) (ih : IH Pr w K mg base ad fd cls FF n) : FnOk Pr w K mg base (CXd Pr w) (2 * (n + 1)) (ad 9) (fd 9) ["_law_cell", "_law_many"] (spD K cls 2 (callD tab fns FF (n + 1) 9)) := by
 refine fn_step (m := 2 * n + 1) (body' := c__law_stream) T.f__law_stream sc__law_stream rfl fun cdv A outer s H E hrm => ?_
 have hr := hrm.mono (show 2 * n ≤ 2 * n + 1 by omega)
 have hu := hr.units
 subst hw
 refine ss_cons ?_ ?_
 refine s_set (i := 2) ?_ ?_ ?_ ?_
 exact sc__law_stream.nd
 rfl
 exact Or.inl lv__law_stream_2
 refine sd_lst ?_
 exact sdl_nil
 refine ss_cons ?_ ?_
 refine s_set (i := 3) ?_ ?_ ?_ ?_
 exact sc__law_stream.nd
 rfl
 exact Or.inl lv__law_stream_3
 refine sd_fdiv ?_ ?_
 refine sd_var 0 ?_
 exact pv 0 (hv := Or.inl lv__law_stream_0)
 exact sd_int
 refine ss_cons ?_ ?_
 refine s_while ?_ ?_ ?_
 exact PassesOwn.leaving
 refine PW.pt ?_
 refine sdt_and ?_ ?_
 refine sdt_eq ?_ ?_ ?_ ?_
 rfl
 exact hu
 refine sd_mod ?_ ?_
 refine sd_var 0 ?_
 exact pv 0 (hv := Or.inl lv__law_stream_0)
 exact sd_int
 exact sd_int
 refine sdt_and ?_ ?_
 refine sdt_gt ?_ ?_
 refine sd_var 3 ?_
 exact pv 3 (hv := Or.inl lv__law_stream_3)
 exact sd_int
 refine sdt_and1 ?_
 refine sdt_lt ?_ ?_
 refine sd_len ?_ ?_ T.z_len ?_
 rfl
 rfl
 refine sdl_cons ?_ ?_
 refine sd_var 2 ?_
 exact pv 2 (hv := Or.inl lv__law_stream_2)
 exact sdl_nil
 refine sd_var 1 ?_
 exact pv 1 (hv := Or.inl lv__law_stream_1)
 refine ss_cons ?_ ?_
 refine s_ex ?_
 refine sd_append ?_ ?_ ?_
 rfl
 refine sd_var 2 ?_
 exact pv 2 (hv := Or.inl lv__law_stream_2)
 refine sd_mod ?_ ?_
 refine sd_var 3 ?_
 exact pv 3 (hv := Or.inl lv__law_stream_3)
 refine sd_pow ?_ ?_
 exact sd_int
 exact sd_int
 refine ss_cons ?_ ?_
 refine s_set (i := 3) ?_ ?_ ?_ ?_
 exact sc__law_stream.nd
 rfl
 exact Or.inl lv__law_stream_3
 refine sd_fdiv ?_ ?_
 refine sd_var 3 ?_
 exact pv 3 (hv := Or.inl lv__law_stream_3)
 refine sd_pow ?_ ?_
 exact sd_int
 exact sd_int
 exact ss_nil
 refine ss_cons ?_ ?_
 refine s_set (i := 3) ?_ ?_ ?_ ?_
 exact sc__law_stream.nd
 rfl
 exact Or.inl lv__law_stream_3
 refine sd_mod ?_ ?_
 refine sd_mul ?_ ?_ ?_
 rfl
 refine sd_add ?_ ?_
 refine sd_fdiv ?_ ?_
 refine sd_var 0 ?_
 exact pv 0 (hv := Or.inl lv__law_stream_0)
 exact sd_int
 exact sd_int
 exact sd_int
 exact sd_int
 refine ss_cons ?_ ?_
 refine s_forR (is := [4]) ?_ ?_ ?_ T.z_range ?_ ?_ ?_
 exact PassesOwn.leaving
 rfl
 rfl
 refine sd_var 1 ?_
 exact pv 1 (hv := Or.inl lv__law_stream_1)
 refine tg_one ?_ ?_ ?_
 exact sc__law_stream.nd
 rfl
 exact Or.inl lv__law_stream_4
 refine ss_cons ?_ ?_
 refine s_set (i := 3) ?_ ?_ ?_ ?_
 exact sc__law_stream.nd
 rfl
 exact Or.inl lv__law_stream_3
 refine sd_mod ?_ ?_
 refine sd_mul ?_ ?_ ?_
 rfl
 refine sd_var 3 ?_
 exact pv 3 (hv := Or.inl lv__law_stream_3)
 refine sd_add ?_ ?_
 refine sd_add ?_ ?_
 refine sd_fdiv ?_ ?_
 refine sd_var 3 ?_
 exact pv 3 (hv := Or.inl lv__law_stream_3)
 exact sd_int
 exact sd_int
 refine sd_var 4 ?_
 exact pv 4 (hv := Or.inl lv__law_stream_4)
 exact sd_int
 refine ss_cons ?_ ?_
 refine s_ex ?_
 refine sd_append ?_ ?_ ?_
 rfl
 refine sd_var 2 ?_
 exact pv 2 (hv := Or.inl lv__law_stream_2)
 refine sd_var 3 ?_
 exact pv 3 (hv := Or.inl lv__law_stream_3)
 refine ss_cons ?_ ?_
 refine s_set (i := 3) ?_ ?_ ?_ ?_
 exact sc__law_stream.nd
 rfl
 exact Or.inl lv__law_stream_3
 refine sd_add ?_ ?_
 refine sd_var 3 ?_
 exact pv 3 (hv := Or.inl lv__law_stream_3)
 exact sd_int
 exact ss_nil
 refine ss_cons ?_ ?_
 refine s_ret ?_
 refine sd_sl2 ?_ ?_ ?_
 rfl
 refine sd_var 2 ?_
 exact pv 2 (hv := Or.inl lv__law_stream_2)
 refine sd_var 1 ?_
 exact pv 1 (hv := Or.inl lv__law_stream_1)
 exact ss_nil
theorem sc__law_term : FnScope ["_law_number", "_law_names", "_law_term_here"] ["_law_number"] (defScope st__law_term) := ⟨rfl, rfl, rfl, by decide +kernel, rfl, by decide +kernel, by decide +kernel⟩
theorem lv__law_term_0 : (defScope st__law_term).names.lookup (Str.ofString "_law_number") = some NameKind.local := by decide +kernel
theorem lv__law_term_1 : (defScope st__law_term).names.lookup (Str.ofString "_law_names") = some NameKind.local := by decide +kernel
theorem lv__law_term_2 : (defScope st__law_term).names.lookup (Str.ofString "_law_term_here") = some NameKind.local := by decide +kernel
theorem ok__law_term {n : Nat} (hw : cls.w = w) (T : Txt K mg ad fd cls) (ih : IH Pr w K mg base ad fd cls FF n) : FnOk Pr w K mg base (CXd Pr w) (2 * (n + 1)) (ad 10) (fd 10) ["_law_number"] (spD K cls 1 (callD tab fns FF (n + 1) 10)) := by
 refine fn_step (m := 2 * n + 1) (body' := c__law_term) T.f__law_term sc__law_term rfl fun cdv A outer s H E hrm => ?_
 have hr := hrm.mono (show 2 * n ≤ 2 * n + 1 by omega)
 have hu := hr.units
 subst hw
 refine ss_cons ?_ ?_
 refine s_set (i := 1) ?_ ?_ ?_ ?_
 exact sc__law_term.nd
 rfl
 exact Or.inl lv__law_term_1
 refine sd_lst ?_
 refine sdl_cons ?_ ?_
 exact sd_str
 refine sdl_cons ?_ ?_
 exact sd_str
 refine sdl_cons ?_ ?_
 exact sd_str
 refine sdl_cons ?_ ?_
 exact sd_str
 refine sdl_cons ?_ ?_
 exact sd_str
 refine sdl_cons ?_ ?_
 exact sd_str
 exact sdl_nil
 refine ss_cons ?_ ?_
 refine s_set (i := 2) ?_ ?_ ?_ ?_
 exact sc__law_term.nd
 rfl
 exact Or.inl lv__law_term_2
 refine sd_tup ?_
 refine sdl_cons ?_ ?_
 exact sd_str
 refine sdl_cons ?_ ?_
 refine sd_ix ?_ ?_ ?_ ?_ ?_ ?_
 rfl
 rfl
 exact hu
 refine sd_var 1 ?_
 exact pv 1 (hv := Or.inl lv__law_term_1)
 refine sd_mod ?_ ?_
 refine sd_var 0 ?_
 exact pv 0 (hv := Or.inl lv__law_term_0)
 exact sd_int
 intro _ _; rfl
 exact sdl_nil
 refine ss_cons ?_ ?_
 refine s_if ?_ ?_ ?_
 refine sdt_eq ?_ ?_ ?_ ?_
 rfl
 exact hu
 refine sd_mod ?_ ?_
 refine sd_fdiv ?_ ?_
 refine sd_var 0 ?_
 exact pv 0 (hv := Or.inl lv__law_term_0)
 exact sd_int
 exact sd_int
 exact sd_int
 refine ss_cons ?_ ?_
 refine s_ret ?_
 refine sd_tup ?_
 refine sdl_cons ?_ ?_
 exact sd_str
 refine sdl_cons ?_ ?_
 refine sd_ix ?_ ?_ ?_ ?_ ?_ ?_
 rfl
 rfl
 exact hu
 refine sd_lst ?_
 refine sdl_cons ?_ ?_
 exact sd_str
 refine sdl_cons ?_ ?_
 exact sd_str
 exact sdl_nil
 refine sd_mod ?_ ?_
 refine sd_fdiv ?_ ?_
 refine sd_var 0 ?_
 exact pv 0 (hv := Or.inl lv__law_term_0)
 exact sd_int
 exact sd_int
 intro _ _; rfl
 refine sdl_cons ?_ ?_
 refine sd_tup ?_
 refine sdl_cons ?_ ?_
 refine sd_var 2 ?_
 exact pv 2 (hv := Or.inl lv__law_term_2)
 exact sdl_nil
 exact sdl_nil
 exact ss_nil
 exact ss_nil
 refine ss_cons ?_ ?_
 refine s_if ?_ ?_ ?_
 refine PW.pt ?_
 refine sdt_and ?_ ?_
 refine sdt_eq ?_ ?_ ?_ ?_
 rfl
 exact hu
 refine sd_mod ?_ ?_
 refine sd_fdiv ?_ ?_
 refine sd_var 0 ?_
 exact pv 0 (hv := Or.inl lv__law_term_0)
 exact sd_int
 exact sd_int
 exact sd_int
 refine sdt_and1 ?_
 refine sdt_eq ?_ ?_ ?_ ?_
 rfl
 exact hu
 refine sd_mod ?_ ?_
 refine sd_fdiv ?_ ?_
 refine sd_var 0 ?_
 exact pv 0 (hv := Or.inl lv__law_term_0)
 exact sd_int
 exact sd_int
 exact sd_int
 refine ss_cons ?_ ?_
 refine s_ret ?_
 refine sd_tup ?_
 refine sdl_cons ?_ ?_
 exact sd_str
 refine sdl_cons ?_ ?_
 exact sd_str
 refine sdl_cons ?_ ?_
 refine sd_tup ?_
 refine sdl_cons ?_ ?_
 refine sd_tup ?_
 refine sdl_cons ?_ ?_
 exact sd_str
 refine sdl_cons ?_ ?_
 exact sd_str
 refine sdl_cons ?_ ?_
 refine sd_tup ?_
 refine sdl_cons ?_ ?_
 refine sd_var 2 ?_
 exact pv 2 (hv := Or.inl lv__law_term_2)
 exact sdl_nil
 exact sdl_nil
 exact sdl_nil
 exact sdl_nil
 exact ss_nil
 exact ss_nil
 refine ss_cons ?_ ?_
 refine s_ret ?_
 refine sd_var 2 ?_
 exact pv 2 (hv := Or.inl lv__law_term_2)
 exact ss_nil
theorem sc__law_reached : FnScope ["_law_links", "_law_one", "_law_seen", "_law_turn", "_law_mark", "_law_first", "_law_second"] ["_law_links", "_law_one"] (defScope st__law_reached) := ⟨rfl, rfl, rfl, by decide +kernel, rfl, by decide +kernel, by decide +kernel⟩
theorem lv__law_reached_0 : (defScope st__law_reached).names.lookup (Str.ofString "_law_links") = some NameKind.local := by decide +kernel
theorem lv__law_reached_1 : (defScope st__law_reached).names.lookup (Str.ofString "_law_one") = some NameKind.local := by decide +kernel
theorem lv__law_reached_2 : (defScope st__law_reached).names.lookup (Str.ofString "_law_seen") = some NameKind.local := by decide +kernel
theorem lv__law_reached_3 : (defScope st__law_reached).names.lookup (Str.ofString "_law_turn") = some NameKind.local := by decide +kernel
theorem lv__law_reached_4 : (defScope st__law_reached).names.lookup (Str.ofString "_law_mark") = some NameKind.local := by decide +kernel
theorem lv__law_reached_5 : (defScope st__law_reached).names.lookup (Str.ofString "_law_first") = some NameKind.local := by decide +kernel
theorem lv__law_reached_6 : (defScope st__law_reached).names.lookup (Str.ofString "_law_second") = some NameKind.local := by decide +kernel
theorem ok__law_reached {n : Nat} (hw : cls.w = w) (T : Txt K mg ad fd cls) (ih : IH Pr w K mg base ad fd cls FF n) : FnOk Pr w K mg base (CXd Pr w) (2 * (n + 1)) (ad 11) (fd 11) ["_law_links", "_law_one"] (spD K cls 2 (callD tab fns FF (n + 1) 11)) := by
 refine fn_step (m := 2 * n + 1) (body' := c__law_reached) T.f__law_reached sc__law_reached rfl fun cdv A outer s H E hrm => ?_
 have hr := hrm.mono (show 2 * n ≤ 2 * n + 1 by omega)
 have hu := hr.units
 subst hw
 refine ss_cons ?_ ?_
 refine s_set (i := 2) ?_ ?_ ?_ ?_
 exact sc__law_reached.nd
 rfl
 exact Or.inl lv__law_reached_2
 refine sd_lst ?_
 refine sdl_cons ?_ ?_
 refine sd_var 1 ?_
 exact pv 1 (hv := Or.inl lv__law_reached_1)
 exact sdl_nil
 refine ss_cons ?_ ?_
 refine s_forR (is := [3]) ?_ ?_ ?_ T.z_range ?_ ?_ ?_
 exact PassesOwn.leaving
 rfl
 rfl
 refine sd_len ?_ ?_ T.z_len ?_
 rfl
 rfl
 refine sdl_cons ?_ ?_
 refine sd_var 0 ?_
 exact pv 0 (hv := Or.inl lv__law_reached_0)
 exact sdl_nil
 refine tg_one ?_ ?_ ?_
 exact sc__law_reached.nd
 rfl
 exact Or.inl lv__law_reached_3
 refine ss_cons ?_ ?_
 refine s_forL (is := [4, 5, 6]) ?_ ?_ ?_ ?_ ?_ ?_
 rfl
 exact PassesOwn.leaving
 rfl
 refine sd_var 0 ?_
 exact pv 0 (hv := Or.inl lv__law_reached_0)
 refine pg_tup ?_ ?_
 rfl
 refine pgs_cons ?_ ?_
 refine pg_name (i := 4) ?_ ?_ ?_
 exact sc__law_reached.nd
 rfl
 exact Or.inl lv__law_reached_4
 refine pgs_cons ?_ ?_
 refine pg_name (i := 5) ?_ ?_ ?_
 exact sc__law_reached.nd
 rfl
 exact Or.inl lv__law_reached_5
 refine pgs_cons ?_ ?_
 refine pg_name (i := 6) ?_ ?_ ?_
 exact sc__law_reached.nd
 rfl
 exact Or.inl lv__law_reached_6
 exact pgs_nil
 refine ss_cons ?_ ?_
 refine s_if ?_ ?_ ?_
 refine PW.pt ?_
 refine sdt_and ?_ ?_
 refine sdt_in ?_ ?_ ?_ ?_ ?_
 rfl
 rfl
 exact hu
 refine sd_var 5 ?_
 exact pv 5 (hv := Or.inl lv__law_reached_5)
 refine sd_var 2 ?_
 exact pv 2 (hv := Or.inl lv__law_reached_2)
 refine sdt_and1 ?_
 refine sdt_notIn ?_ ?_ ?_ ?_ ?_
 rfl
 rfl
 exact hu
 refine sd_var 6 ?_
 exact pv 6 (hv := Or.inl lv__law_reached_6)
 refine sd_var 2 ?_
 exact pv 2 (hv := Or.inl lv__law_reached_2)
 refine ss_cons ?_ ?_
 refine s_ex ?_
 refine sd_append ?_ ?_ ?_
 rfl
 refine sd_var 2 ?_
 exact pv 2 (hv := Or.inl lv__law_reached_2)
 refine sd_var 6 ?_
 exact pv 6 (hv := Or.inl lv__law_reached_6)
 exact ss_nil
 exact ss_nil
 refine ss_cons ?_ ?_
 refine s_if ?_ ?_ ?_
 refine PW.pt ?_
 refine sdt_and ?_ ?_
 refine sdt_in ?_ ?_ ?_ ?_ ?_
 rfl
 rfl
 exact hu
 refine sd_var 6 ?_
 exact pv 6 (hv := Or.inl lv__law_reached_6)
 refine sd_var 2 ?_
 exact pv 2 (hv := Or.inl lv__law_reached_2)
 refine sdt_and1 ?_
 refine sdt_notIn ?_ ?_ ?_ ?_ ?_
 rfl
 rfl
 exact hu
 refine sd_var 5 ?_
 exact pv 5 (hv := Or.inl lv__law_reached_5)
 refine sd_var 2 ?_
 exact pv 2 (hv := Or.inl lv__law_reached_2)
 refine ss_cons ?_ ?_
 refine s_ex ?_
 refine sd_append ?_ ?_ ?_
 rfl
 refine sd_var 2 ?_
 exact pv 2 (hv := Or.inl lv__law_reached_2)
 refine sd_var 5 ?_
 exact pv 5 (hv := Or.inl lv__law_reached_5)
 exact ss_nil
 exact ss_nil
 exact ss_nil
 exact ss_nil
 refine ss_cons ?_ ?_
 refine s_ret ?_
 refine sd_var 2 ?_
 exact pv 2 (hv := Or.inl lv__law_reached_2)
 exact ss_nil
theorem sc_law : FnScope ["_law_script", "_law_many", "_law_terms", "_law_some", "_law_links", "_law_k", "_law_cell", "_law_xs", "_law_due", "_law_term_here", "_law_seen", "_law_handed", "_law_told"] ["_law_script"] (defScope st_law) := ⟨rfl, rfl, rfl, by decide +kernel, rfl, by decide +kernel, by decide +kernel⟩
theorem lv_law_0 : (defScope st_law).names.lookup (Str.ofString "_law_script") = some NameKind.local := by decide +kernel
theorem lv_law_1 : (defScope st_law).names.lookup (Str.ofString "_law_many") = some NameKind.local := by decide +kernel
theorem lv_law_2 : (defScope st_law).names.lookup (Str.ofString "_law_terms") = some NameKind.local := by decide +kernel
theorem lv_law_3 : (defScope st_law).names.lookup (Str.ofString "_law_some") = some NameKind.local := by decide +kernel
theorem lv_law_4 : (defScope st_law).names.lookup (Str.ofString "_law_links") = some NameKind.local := by decide +kernel
theorem lv_law_5 : (defScope st_law).names.lookup (Str.ofString "_law_k") = some NameKind.local := by decide +kernel
theorem lv_law_6 : (defScope st_law).names.lookup (Str.ofString "_law_cell") = some NameKind.local := by decide +kernel
theorem lv_law_7 : (defScope st_law).names.lookup (Str.ofString "_law_xs") = some NameKind.local := by decide +kernel
theorem lv_law_8 : (defScope st_law).names.lookup (Str.ofString "_law_due") = some NameKind.local := by decide +kernel
theorem lv_law_9 : (defScope st_law).names.lookup (Str.ofString "_law_term_here") = some NameKind.local := by decide +kernel
theorem lv_law_10 : (defScope st_law).names.lookup (Str.ofString "_law_seen") = some NameKind.cell := by decide +kernel
theorem lv_law_11 : (defScope st_law).names.lookup (Str.ofString "_law_handed") = some NameKind.local := by decide +kernel
theorem lv_law_12 : (defScope st_law).names.lookup (Str.ofString "_law_told") = some NameKind.local := by decide +kernel
theorem ok_law {n : Nat} (hw : cls.w = w) (T : Txt K mg ad fd cls) (ih : IH Pr w K mg base ad fd cls FF n) : FnOk Pr w K mg base (CXd Pr w) (2 * (n + 1)) (ad 12) (fd 12) ["_law_script"] (spD K cls 1 (callD tab fns FF (n + 1) 12)) := by
 refine fn_step (m := 2 * n + 1) (body' := c_law) T.f_law sc_law rfl fun cdv A outer s H E hrm => ?_
 have hr := hrm.mono (show 2 * n ≤ 2 * n + 1 by omega)
 have hu := hr.units
 subst hw
 refine ss_cons ?_ ?_
 refine s_set (i := 1) ?_ ?_ ?_ ?_
 exact sc_law.nd
 rfl
 exact Or.inl lv_law_1
 refine sd_mod ?_ ?_
 refine sd_call ih.i__law_cell_at hr (by rfl) T.m__law_cell_at T.f__law_cell_at.kp T.b__law_cell_at .nil (fun _ _ => by simp [DD.RepL, DD.Rep]) pass_def (callD_len rfl) ?_
 refine sdl_cons ?_ ?_
 refine sd_var 0 ?_
 exact pv 0 (hv := Or.inl lv_law_0)
 refine sdl_cons ?_ ?_
 exact sd_int
 exact sdl_nil
 exact sd_int
 refine ss_cons ?_ ?_
 refine s_setC (i := 2) (hNd := sc_law.nd) (hix := by rfl) (hx := lv_law_2) (cl := []) (N := ["_law_cell"]) (nl := 1) (fv := []) (tgs := [0]) (one := true) (k := 0) ?_ ?_ ?_ ?_ ?_ ?_ ?_ ?_ ?_ ?_ ?_ ?_ ?_ ?_
 rfl
 rfl
 rfl
 decide
 decide
 rfl
 refine clos_of ?_ ?_
 exact trivial
 rfl
 rfl
 refine fv_of ?_
 exact trivial
 decide
 refine si_list ?_ ?_
 rfl
 refine sd_sl3 ?_ ?_ ?_ ?_
 rfl
 refine sd_var 0 ?_
 exact pv 0 (hv := Or.inl lv_law_0)
 exact sd_int
 refine sd_add ?_ ?_
 exact sd_int
 refine sd_var 1 ?_
 exact pv 1 (hv := Or.inl lv_law_1)
 intro L s0 H0 fp pn
 refine tg_one ?_ ?_ ?_ ?_
 show List.Nodup (["_law_cell"] : List Str); decide
 rfl
 exact Or.inl rfl
 refine Or.inr ?_
 exact rfl
 intro L s0 H0 fp pn
 exact pts_nil
 intro L s0 H0 fp pn
 refine sd_call ih.i__law_term hr (by rfl) T.m__law_term T.f__law_term.kp T.b__law_term .nil (fun _ _ => by simp [DD.RepL, DD.Rep]) passF (callD_len rfl) ?_
 refine sdl_cons ?_ ?_
 refine sd_var 0 ?_
 exact pv 0 (hv := by first | exact Or.inl rfl | exact Or.inr (Or.inl rfl) | exact Or.inr (Or.inr rfl))
 exact sdl_nil
 refine ss_cons ?_ ?_
 refine s_set (i := 3) ?_ ?_ ?_ ?_
 exact sc_law.nd
 rfl
 exact Or.inl lv_law_3
 refine sd_add ?_ ?_
 refine sd_var 2 ?_
 exact pv 2 (hv := Or.inl lv_law_2)
 refine sd_lst ?_
 refine sdl_cons ?_ ?_
 refine sd_tup ?_
 refine sdl_cons ?_ ?_
 exact sd_str
 refine sdl_cons ?_ ?_
 exact sd_str
 exact sdl_nil
 refine sdl_cons ?_ ?_
 refine sd_tup ?_
 refine sdl_cons ?_ ?_
 exact sd_str
 refine sdl_cons ?_ ?_
 exact sd_str
 exact sdl_nil
 refine sdl_cons ?_ ?_
 refine sd_tup ?_
 refine sdl_cons ?_ ?_
 exact sd_str
 refine sdl_cons ?_ ?_
 exact sd_str
 refine sdl_cons ?_ ?_
 refine sd_tup ?_
 refine sdl_cons ?_ ?_
 refine sd_tup ?_
 refine sdl_cons ?_ ?_
 exact sd_str
 refine sdl_cons ?_ ?_
 exact sd_str
 exact sdl_nil
 exact sdl_nil
 exact sdl_nil
 exact sdl_nil
 refine ss_cons ?_ ?_
 refine s_set (i := 4) ?_ ?_ ?_ ?_
 exact sc_law.nd
 rfl
 exact Or.inl lv_law_4
 refine sd_lst ?_
 exact sdl_nil
 refine ss_cons ?_ ?_
 refine s_forE (i0 := 5) (is := [6]) (one := true) ?_ ?_ ?_ ?_ T.z_enumerate ?_ ?_ ?_
 rfl
 exact PassesOwn.leaving
 rfl
 rfl
 refine sd_sl3 ?_ ?_ ?_ ?_
 rfl
 refine sd_var 0 ?_
 exact pv 0 (hv := Or.inl lv_law_0)
 refine sd_add ?_ ?_
 exact sd_int
 refine sd_var 1 ?_
 exact pv 1 (hv := Or.inl lv_law_1)
 refine sd_add ?_ ?_
 exact sd_int
 refine sd_var 1 ?_
 exact pv 1 (hv := Or.inl lv_law_1)
 refine pg_tup ?_ ?_
 rfl
 refine pgs_cons ?_ ?_
 refine pg_name (i := 5) ?_ ?_ ?_
 exact sc_law.nd
 rfl
 exact Or.inl lv_law_5
 refine pgs_cons ?_ ?_
 refine tg_one ?_ ?_ ?_
 exact sc_law.nd
 rfl
 exact Or.inl lv_law_6
 exact pgs_nil
 refine ss_cons ?_ ?_
 refine s_set (i := 7) ?_ ?_ ?_ ?_
 exact sc_law.nd
 rfl
 exact Or.inl lv_law_7
 refine sd_call ih.i__law_stream hr (by rfl) T.m__law_stream T.f__law_stream.kp T.b__law_stream .nil (fun _ _ => by simp [DD.RepL, DD.Rep]) pass_def (callD_len rfl) ?_
 refine sdl_cons ?_ ?_
 refine sd_var 6 ?_
 exact pv 6 (hv := Or.inl lv_law_6)
 refine sdl_cons ?_ ?_
 exact sd_int
 exact sdl_nil
 refine ss_cons ?_ ?_
 refine s_ex ?_
 refine sd_append ?_ ?_ ?_
 rfl
 refine sd_var 4 ?_
 exact pv 4 (hv := Or.inl lv_law_4)
 refine sd_tup ?_
 refine sdl_cons ?_ ?_
 refine sd_var 5 ?_
 exact pv 5 (hv := Or.inl lv_law_5)
 refine sdl_cons ?_ ?_
 refine sd_ix ?_ ?_ ?_ ?_ ?_ ?_
 rfl
 rfl
 exact hu
 refine sd_var 3 ?_
 exact pv 3 (hv := Or.inl lv_law_3)
 refine sd_mod ?_ ?_
 refine sd_ix ?_ ?_ ?_ ?_ ?_ ?_
 rfl
 rfl
 exact hu
 refine sd_var 7 ?_
 exact pv 7 (hv := Or.inl lv_law_7)
 exact sd_int
 intro _ _; rfl
 refine sd_len ?_ ?_ T.z_len ?_
 rfl
 rfl
 refine sdl_cons ?_ ?_
 refine sd_var 3 ?_
 exact pv 3 (hv := Or.inl lv_law_3)
 exact sdl_nil
 intro _ _; rfl
 refine sdl_cons ?_ ?_
 refine sd_ix ?_ ?_ ?_ ?_ ?_ ?_
 rfl
 rfl
 exact hu
 refine sd_var 3 ?_
 exact pv 3 (hv := Or.inl lv_law_3)
 refine sd_mod ?_ ?_
 refine sd_ix ?_ ?_ ?_ ?_ ?_ ?_
 rfl
 rfl
 exact hu
 refine sd_var 7 ?_
 exact pv 7 (hv := Or.inl lv_law_7)
 exact sd_int
 intro _ _; rfl
 refine sd_len ?_ ?_ T.z_len ?_
 rfl
 rfl
 refine sdl_cons ?_ ?_
 refine sd_var 3 ?_
 exact pv 3 (hv := Or.inl lv_law_3)
 exact sdl_nil
 intro _ _; rfl
 exact sdl_nil
 exact ss_nil
 refine ss_cons ?_ ?_
 refine s_set (i := 8) ?_ ?_ ?_ ?_
 exact sc_law.nd
 rfl
 exact Or.inl lv_law_8
 refine sd_dnewN ?_
 rfl
 refine ss_cons ?_ ?_
 refine s_forL (is := [9]) ?_ ?_ ?_ ?_ ?_ ?_
 rfl
 exact PassesOwn.leaving
 rfl
 refine sd_var 2 ?_
 exact pv 2 (hv := Or.inl lv_law_2)
 refine tg_one ?_ ?_ ?_
 exact sc_law.nd
 rfl
 exact Or.inl lv_law_9
 refine ss_cons ?_ ?_
 refine s_set (i := 10) ?_ ?_ ?_ ?_
 exact sc_law.nd
 rfl
 refine Or.inr ?_
 exact lv_law_10
 refine sd_call ih.i__law_reached hr (by rfl) T.m__law_reached T.f__law_reached.kp T.b__law_reached .nil (fun _ _ => by simp [DD.RepL, DD.Rep]) pass_def (callD_len rfl) ?_
 refine sdl_cons ?_ ?_
 refine sd_var 4 ?_
 exact pv 4 (hv := Or.inl lv_law_4)
 refine sdl_cons ?_ ?_
 refine sd_var 9 ?_
 exact pv 9 (hv := Or.inl lv_law_9)
 exact sdl_nil
 refine ss_cons ?_ ?_
 refine s_dput ?_ ?_ ?_ ?_ ?_ ?_
 rfl
 rfl
 exact hu
 refine sd_var 8 ?_
 exact pv 8 (hv := Or.inl lv_law_8)
 refine sd_var 9 ?_
 exact pv 9 (hv := Or.inl lv_law_9)
 refine sd_ix ?_ ?_ ?_ ?_ ?_ ?_
 rfl
 rfl
 exact hu
 refine sd_compG (cl := [(Str.ofString "_law_seen", s.heap.objs.size + 1)]) (N := ["_law_other", "_law_seen"]) (nl := 1) (fv := [10]) (tgs := [0]) (one := true) (k := 0) ?_ ?_ ?_ ?_ ?_ ?_ ?_ ?_ ?_ ?_ ?_ ?_ ?_ ?_
 rfl
 rfl
 rfl
 decide
 decide
 rfl
 refine clos_of ?_ ?_
 exact ⟨rfl, trivial⟩
 rfl
 rfl
 refine fv_of ?_
 exact ⟨⟨_, _, rfl, rfl, rfl, by first | exact Or.inl rfl | exact Or.inr rfl, by first | exact Or.inl rfl | exact Or.inr rfl⟩, trivial⟩
 decide
 refine si_list ?_ ?_
 rfl
 refine sd_var 2 ?_
 exact pv 2 (hv := Or.inl lv_law_2)
 intro L s0 H0 fp pn
 refine tg_one ?_ ?_ ?_ ?_
 show List.Nodup (["_law_other", "_law_seen"] : List Str); decide
 rfl
 exact Or.inl rfl
 refine Or.inr ?_
 exact rfl
 intro L s0 H0 fp pn
 refine pts_one ?_
 refine sdt_in ?_ ?_ ?_ ?_ ?_
 rfl
 rfl
 exact hu
 refine sd_var 0 ?_
 exact pv 0 (hv := by first | exact Or.inl rfl | exact Or.inr (Or.inl rfl) | exact Or.inr (Or.inr rfl))
 refine sd_var 1 ?_
 exact pv 1 (hv := by first | exact Or.inl rfl | exact Or.inr (Or.inl rfl) | exact Or.inr (Or.inr rfl))
 intro L s0 H0 fp pn
 refine sd_var 0 ?_
 exact pv 0 (hv := by first | exact Or.inl rfl | exact Or.inr (Or.inl rfl) | exact Or.inr (Or.inr rfl))
 exact sd_int
 intro _ _; rfl
 exact ss_nil
 refine ss_cons ?_ ?_
 refine s_set (i := 11) ?_ ?_ ?_ ?_
 exact sc_law.nd
 rfl
 exact Or.inl lv_law_11
 refine sd_lst ?_
 refine sdl_cons ?_ ?_
 refine sd_list ?_ ?_ T.z_list ?_
 rfl
 rfl
 refine sdl_cons ?_ ?_
 refine sd_var 2 ?_
 exact pv 2 (hv := Or.inl lv_law_2)
 exact sdl_nil
 refine sdl_cons ?_ ?_
 refine sd_list ?_ ?_ T.z_list ?_
 rfl
 rfl
 refine sdl_cons ?_ ?_
 refine sd_var 4 ?_
 exact pv 4 (hv := Or.inl lv_law_4)
 exact sdl_nil
 exact sdl_nil
 refine ss_cons ?_ ?_
 refine s_set (i := 12) ?_ ?_ ?_ ?_
 exact sc_law.nd
 rfl
 exact Or.inl lv_law_12
 refine sd_call ih.i_classes hr (by rfl) T.m_classes T.f_classes.kp T.b_classes .nil (fun _ _ => by simp [DD.RepL, DD.Rep]) pass_def (callD_len rfl) ?_
 refine sdl_cons ?_ ?_
 refine sd_ix ?_ ?_ ?_ ?_ ?_ ?_
 rfl
 rfl
 exact hu
 refine sd_var 11 ?_
 exact pv 11 (hv := Or.inl lv_law_11)
 exact sd_int
 intro _ _; rfl
 refine sdl_cons ?_ ?_
 refine sd_ix ?_ ?_ ?_ ?_ ?_ ?_
 rfl
 rfl
 exact hu
 refine sd_var 11 ?_
 exact pv 11 (hv := Or.inl lv_law_11)
 exact sd_int
 intro _ _; rfl
 exact sdl_nil
 refine ss_cons ?_ ?_
 refine s_if ?_ ?_ ?_
 refine PW.pt ?_
 refine sdt_or ?_ ?_
 refine sdt_not ?_
 refine sdt_val ?_ ?_ ?_ ?_
 rfl
 refine sd_isiB ?_ ?_ ?_ ?_ T.z_isinstance ?_ T.z_dict ?_ ?_
 rfl
 decide
 exact fun n => tab_b (n := n) (x := "dict") (by decide)
 rfl
 rfl
 rfl
 refine sd_var 12 ?_
 exact pv 12 (hv := Or.inl lv_law_12)
 exact hev_isi
 intro _; rfl
 refine sdt_or ?_ ?_
 refine sdt_neM ?_ ?_ ?_ ?_ ?_
 rfl
 rfl
 exact hu
 refine sd_var 12 ?_
 exact pv 12 (hv := Or.inl lv_law_12)
 refine sd_var 8 ?_
 exact pv 8 (hv := Or.inl lv_law_8)
 refine sdt_or1 ?_
 refine sdt_ne ?_ ?_ ?_ ?_
 rfl
 exact hu
 refine sd_var 11 ?_
 exact pv 11 (hv := Or.inl lv_law_11)
 refine sd_lst ?_
 refine sdl_cons ?_ ?_
 refine sd_var 2 ?_
 exact pv 2 (hv := Or.inl lv_law_2)
 refine sdl_cons ?_ ?_
 refine sd_var 4 ?_
 exact pv 4 (hv := Or.inl lv_law_4)
 exact sdl_nil
 refine ss_cons ?_ ?_
 refine s_ret ?_
 exact sd_bl
 exact ss_nil
 exact ss_nil
 refine ss_cons ?_ ?_
 refine s_ex ?_
 refine sd_clearN ?_ ?_ ?_
 rfl
 rfl
 refine sd_var 12 ?_
 exact pv 12 (hv := Or.inl lv_law_12)
 refine ss_cons ?_ ?_
 refine s_ret ?_
 refine sd_eqM ?_ ?_ ?_ ?_ ?_
 rfl
 rfl
 exact hu
 refine sd_call ih.i_classes hr (by rfl) T.m_classes T.f_classes.kp T.b_classes .nil (fun _ _ => by simp [DD.RepL, DD.Rep]) pass_def (callD_len rfl) ?_
 refine sdl_cons ?_ ?_
 refine sd_var 2 ?_
 exact pv 2 (hv := Or.inl lv_law_2)
 refine sdl_cons ?_ ?_
 refine sd_var 4 ?_
 exact pv 4 (hv := Or.inl lv_law_4)
 exact sdl_nil
 refine sd_var 8 ?_
 exact pv 8 (hv := Or.inl lv_law_8)
 exact ss_nil
theorem all_ok (hw : cls.w = w) (T : Txt K mg ad fd cls) : ∀ n, IH Pr w K mg base ad fd cls FF n
 | 0 => ⟨fn_zero, fn_zero, fn_zero, fn_zero, fn_zero, fn_zero, fn_zero, fn_zero, fn_zero, fn_zero, fn_zero, fn_zero, fn_zero⟩
 | n + 1 => by
  have ih := all_ok hw T n
  exact ⟨ok_terms_in hw T ih, ok_label_of hw T ih, ok_Numbering_9__init__ hw T ih, ok_Numbering_9number hw T ih, ok_ways_of hw T ih, ok_ways_of_numbers hw T ih, ok_reached_from hw T ih, ok_classes hw T ih, ok__law_cell_at hw T ih, ok__law_stream hw T ih, ok__law_term hw T ih, ok__law_reached hw T ih, ok_law hw T ih⟩
end
abbrev adOf (l : List Addr) : Nat → Addr := fun i => l.getD i 0
instance : Inhabited FuncData := ⟨PySem.W.fnOf "" "" (defArgs (.Pass ⟨0, 0, 0, 0⟩)) (defBody (.Pass ⟨0, 0, 0, 0⟩)) (defScope (.Pass ⟨0, 0, 0, 0⟩)) .none .none .none .none none .none .none⟩
theorem bind_law (kV doc pm : Value) (an : Option Addr) (cdv ct : Value) (us : List Value) (hl : us.length = 1) : bindArgs (PySem.W.fnOf "law" "law" (defArgs st_law) (defBody st_law) (defScope st_law) .none kV doc pm an cdv ct) ⟨us, []⟩ = pure ((["_law_script"] : List Str).zip us) := match us, hl with | [_], _ => rfl
theorem top_mk (w : World) {K : PySem.W.Frag} {mg : Str → Option Value} {h : Heap} (X : K.In h) (G : h.Ns mainGlobals mg)
    {g0 : Addr}
    {f0 : Addr} {oc0 kv0 dc0 pm0 cd0 ct0 : Value} {od0 an0 : Option Addr} {sl0 : Array (Option Value)}
    {f1 : Addr} {oc1 kv1 dc1 pm1 cd1 ct1 : Value} {od1 an1 : Option Addr} {sl1 : Array (Option Value)}
    {f2 : Addr} {oc2 kv2 dc2 pm2 cd2 ct2 : Value} {od2 an2 : Option Addr} {sl2 : Array (Option Value)}
    {f3 : Addr} {oc3 kv3 dc3 pm3 cd3 ct3 : Value} {od3 an3 : Option Addr} {sl3 : Array (Option Value)}
    {f4 : Addr} {oc4 kv4 dc4 pm4 cd4 ct4 : Value} {od4 an4 : Option Addr} {sl4 : Array (Option Value)}
    {f5 : Addr} {oc5 kv5 dc5 pm5 cd5 ct5 : Value} {od5 an5 : Option Addr} {sl5 : Array (Option Value)}
    {f6 : Addr} {oc6 kv6 dc6 pm6 cd6 ct6 : Value} {od6 an6 : Option Addr} {sl6 : Array (Option Value)}
    {f7 : Addr} {oc7 kv7 dc7 pm7 cd7 ct7 : Value} {od7 an7 : Option Addr} {sl7 : Array (Option Value)}
    {f8 : Addr} {oc8 kv8 dc8 pm8 cd8 ct8 : Value} {od8 an8 : Option Addr} {sl8 : Array (Option Value)}
    {f9 : Addr} {oc9 kv9 dc9 pm9 cd9 ct9 : Value} {od9 an9 : Option Addr} {sl9 : Array (Option Value)}
    {f10 : Addr} {oc10 kv10 dc10 pm10 cd10 ct10 : Value} {od10 an10 : Option Addr} {sl10 : Array (Option Value)}
    {f11 : Addr} {oc11 kv11 dc11 pm11 cd11 ct11 : Value} {od11 an11 : Option Addr} {sl11 : Array (Option Value)}
    {f12 : Addr} {oc12 kv12 dc12 pm12 cd12 ct12 : Value} {od12 an12 : Option Addr} {sl12 : Array (Option Value)}
    (ac0 : PySem.W.nsIn K mainGlobals "Numbering" = some (some (.ref g0)))
    (a0 : PySem.W.nsIn K mainGlobals "terms_in" = some (some (.ref f0)))
    (l0 : K.lookup f0 = some ⟨oc0, od0, .func (PySem.W.fnOf "terms_in" "terms_in" (defArgs st_terms_in) (defBody st_terms_in) (defScope st_terms_in) .none kv0 dc0 pm0 an0 cd0 ct0), sl0⟩)
    (c0 : PySem.W.codeIn K cd0 "terms_in" = true)
    (k0 : PySem.W.keepIn K (.ref f0) = true)
    (a1 : PySem.W.nsIn K mainGlobals "label_of" = some (some (.ref f1)))
    (l1 : K.lookup f1 = some ⟨oc1, od1, .func (PySem.W.fnOf "label_of" "label_of" (defArgs st_label_of) (defBody st_label_of) (defScope st_label_of) .none kv1 dc1 pm1 an1 cd1 ct1), sl1⟩)
    (c1 : PySem.W.codeIn K cd1 "label_of" = true)
    (k1 : PySem.W.keepIn K (.ref f1) = true)
    (a2 : PySem.W.findIn K (.ref g0) "__init__" = some (some (.ref f2)))
    (i2 : PySem.W.isFn K (.ref f2) = true)
    (l2 : K.lookup f2 = some ⟨oc2, od2, .func (PySem.W.fnOf "__init__" "Numbering.__init__" (defArgs st_Numbering_9__init__) (defBody st_Numbering_9__init__) (defScope st_Numbering_9__init__) .none kv2 dc2 pm2 an2 cd2 ct2), sl2⟩)
    (c2 : PySem.W.codeIn K cd2 "Numbering.__init__" = true)
    (k2 : PySem.W.keepIn K (.ref f2) = true)
    (a3 : PySem.W.findIn K (.ref g0) "number" = some (some (.ref f3)))
    (i3 : PySem.W.isFn K (.ref f3) = true)
    (l3 : K.lookup f3 = some ⟨oc3, od3, .func (PySem.W.fnOf "number" "Numbering.number" (defArgs st_Numbering_9number) (defBody st_Numbering_9number) (defScope st_Numbering_9number) .none kv3 dc3 pm3 an3 cd3 ct3), sl3⟩)
    (c3 : PySem.W.codeIn K cd3 "Numbering.number" = true)
    (k3 : PySem.W.keepIn K (.ref f3) = true)
    (a4 : PySem.W.nsIn K mainGlobals "ways_of" = some (some (.ref f4)))
    (l4 : K.lookup f4 = some ⟨oc4, od4, .func (PySem.W.fnOf "ways_of" "ways_of" (defArgs st_ways_of) (defBody st_ways_of) (defScope st_ways_of) .none kv4 dc4 pm4 an4 cd4 ct4), sl4⟩)
    (c4 : PySem.W.codeIn K cd4 "ways_of" = true)
    (k4 : PySem.W.keepIn K (.ref f4) = true)
    (a5 : PySem.W.nsIn K mainGlobals "ways_of_numbers" = some (some (.ref f5)))
    (l5 : K.lookup f5 = some ⟨oc5, od5, .func (PySem.W.fnOf "ways_of_numbers" "ways_of_numbers" (defArgs st_ways_of_numbers) (defBody st_ways_of_numbers) (defScope st_ways_of_numbers) .none kv5 dc5 pm5 an5 cd5 ct5), sl5⟩)
    (c5 : PySem.W.codeIn K cd5 "ways_of_numbers" = true)
    (k5 : PySem.W.keepIn K (.ref f5) = true)
    (a6 : PySem.W.nsIn K mainGlobals "reached_from" = some (some (.ref f6)))
    (l6 : K.lookup f6 = some ⟨oc6, od6, .func (PySem.W.fnOf "reached_from" "reached_from" (defArgs st_reached_from) (defBody st_reached_from) (defScope st_reached_from) .none kv6 dc6 pm6 an6 cd6 ct6), sl6⟩)
    (c6 : PySem.W.codeIn K cd6 "reached_from" = true)
    (k6 : PySem.W.keepIn K (.ref f6) = true)
    (a7 : PySem.W.nsIn K mainGlobals "classes" = some (some (.ref f7)))
    (l7 : K.lookup f7 = some ⟨oc7, od7, .func (PySem.W.fnOf "classes" "classes" (defArgs st_classes) (defBody st_classes) (defScope st_classes) .none kv7 dc7 pm7 an7 cd7 ct7), sl7⟩)
    (c7 : PySem.W.codeIn K cd7 "classes" = true)
    (k7 : PySem.W.keepIn K (.ref f7) = true)
    (a8 : PySem.W.nsIn K mainGlobals "_law_cell_at" = some (some (.ref f8)))
    (l8 : K.lookup f8 = some ⟨oc8, od8, .func (PySem.W.fnOf "_law_cell_at" "_law_cell_at" (defArgs st__law_cell_at) (defBody st__law_cell_at) (defScope st__law_cell_at) .none kv8 dc8 pm8 an8 cd8 ct8), sl8⟩)
    (c8 : PySem.W.codeIn K cd8 "_law_cell_at" = true)
    (k8 : PySem.W.keepIn K (.ref f8) = true)
    (a9 : PySem.W.nsIn K mainGlobals "_law_stream" = some (some (.ref f9)))
    (l9 : K.lookup f9 = some ⟨oc9, od9, .func (PySem.W.fnOf "_law_stream" "_law_stream" (defArgs st__law_stream) (defBody st__law_stream) (defScope st__law_stream) .none kv9 dc9 pm9 an9 cd9 ct9), sl9⟩)
    (c9 : PySem.W.codeIn K cd9 "_law_stream" = true)
    (k9 : PySem.W.keepIn K (.ref f9) = true)
    (a10 : PySem.W.nsIn K mainGlobals "_law_term" = some (some (.ref f10)))
    (l10 : K.lookup f10 = some ⟨oc10, od10, .func (PySem.W.fnOf "_law_term" "_law_term" (defArgs st__law_term) (defBody st__law_term) (defScope st__law_term) .none kv10 dc10 pm10 an10 cd10 ct10), sl10⟩)
    (c10 : PySem.W.codeIn K cd10 "_law_term" = true)
    (k10 : PySem.W.keepIn K (.ref f10) = true)
    (a11 : PySem.W.nsIn K mainGlobals "_law_reached" = some (some (.ref f11)))
    (l11 : K.lookup f11 = some ⟨oc11, od11, .func (PySem.W.fnOf "_law_reached" "_law_reached" (defArgs st__law_reached) (defBody st__law_reached) (defScope st__law_reached) .none kv11 dc11 pm11 an11 cd11 ct11), sl11⟩)
    (c11 : PySem.W.codeIn K cd11 "_law_reached" = true)
    (k11 : PySem.W.keepIn K (.ref f11) = true)
    (a12 : PySem.W.nsIn K mainGlobals "law" = some (some (.ref f12)))
    (l12 : K.lookup f12 = some ⟨oc12, od12, .func (PySem.W.fnOf "law" "law" (defArgs st_law) (defBody st_law) (defScope st_law) .none kv12 dc12 pm12 an12 cd12 ct12), sl12⟩)
    (c12 : PySem.W.codeIn K cd12 "law" = true)
    (k12 : PySem.W.keepIn K (.ref f12) = true)
    (pg0 : PySem.W.plainGet K g0 Str.empty = true)
    (hd0 : PySem.W.hasDictIn K g0 = true)
    (po0 : PySem.W.plainOver K g0 = true)
    (sa0 : PySem.W.findIn K (.ref g0) "__setattr__" = some (some (.builtin "object.__setattr__")))
    (na_Numbering_numbers : PySem.W.findIn K (.ref g0) "numbers" = some none)
    (na_Numbering_terms : PySem.W.findIn K (.ref g0) "terms" = some none)
    (mk0 : PySem.W.makesIn K g0 = true)
    (kc0 : PySem.W.keepIn K (.ref g0) = true)
    (z_dict : PySem.W.nsIn K mainGlobals "dict" = some none)
    (z_enumerate : PySem.W.nsIn K mainGlobals "enumerate" = some none)
    (z_isinstance : PySem.W.nsIn K mainGlobals "isinstance" = some none)
    (z_len : PySem.W.nsIn K mainGlobals "len" = some none)
    (z_list : PySem.W.nsIn K mainGlobals "list" = some none)
    (z_range : PySem.W.nsIn K mainGlobals "range" = some none)
    (z_tuple : PySem.W.nsIn K mainGlobals "tuple" = some none)
    : ∃ (ad : Nat → Addr) (fd : Nat → FuncData) (cf : Nat → Addr), Txt K mg ad fd ⟨w, cf⟩ ∧ ∀ (s : Shared) (u : Value), BindsTo s (fd 12) ⟨[u], []⟩ [("_law_script", u)] := by
  refine ⟨(adOf [f0, f1, f2, f3, f4, f5, f6, f7, f8, f9, f10, f11, f12]), (fun i => ([PySem.W.fnOf "terms_in" "terms_in" (defArgs st_terms_in) (defBody st_terms_in) (defScope st_terms_in) .none kv0 dc0 pm0 an0 cd0 ct0, PySem.W.fnOf "label_of" "label_of" (defArgs st_label_of) (defBody st_label_of) (defScope st_label_of) .none kv1 dc1 pm1 an1 cd1 ct1, PySem.W.fnOf "__init__" "Numbering.__init__" (defArgs st_Numbering_9__init__) (defBody st_Numbering_9__init__) (defScope st_Numbering_9__init__) .none kv2 dc2 pm2 an2 cd2 ct2, PySem.W.fnOf "number" "Numbering.number" (defArgs st_Numbering_9number) (defBody st_Numbering_9number) (defScope st_Numbering_9number) .none kv3 dc3 pm3 an3 cd3 ct3, PySem.W.fnOf "ways_of" "ways_of" (defArgs st_ways_of) (defBody st_ways_of) (defScope st_ways_of) .none kv4 dc4 pm4 an4 cd4 ct4, PySem.W.fnOf "ways_of_numbers" "ways_of_numbers" (defArgs st_ways_of_numbers) (defBody st_ways_of_numbers) (defScope st_ways_of_numbers) .none kv5 dc5 pm5 an5 cd5 ct5, PySem.W.fnOf "reached_from" "reached_from" (defArgs st_reached_from) (defBody st_reached_from) (defScope st_reached_from) .none kv6 dc6 pm6 an6 cd6 ct6, PySem.W.fnOf "classes" "classes" (defArgs st_classes) (defBody st_classes) (defScope st_classes) .none kv7 dc7 pm7 an7 cd7 ct7, PySem.W.fnOf "_law_cell_at" "_law_cell_at" (defArgs st__law_cell_at) (defBody st__law_cell_at) (defScope st__law_cell_at) .none kv8 dc8 pm8 an8 cd8 ct8, PySem.W.fnOf "_law_stream" "_law_stream" (defArgs st__law_stream) (defBody st__law_stream) (defScope st__law_stream) .none kv9 dc9 pm9 an9 cd9 ct9, PySem.W.fnOf "_law_term" "_law_term" (defArgs st__law_term) (defBody st__law_term) (defScope st__law_term) .none kv10 dc10 pm10 an10 cd10 ct10, PySem.W.fnOf "_law_reached" "_law_reached" (defArgs st__law_reached) (defBody st__law_reached) (defScope st__law_reached) .none kv11 dc11 pm11 an11 cd11 ct11, PySem.W.fnOf "law" "law" (defArgs st_law) (defBody st_law) (defScope st_law) .none kv12 dc12 pm12 an12 cd12 ct12] : List FuncData).getD i default), (adOf [g0]), ⟨
    (fund_mk (st := st_terms_in) l0 c0 k0),
    (PySem.W.mg_of X G a0),
    (Binds.all fun us hl => match us, hl with | [_], _ => rfl),
    (fund_mk (st := st_label_of) l1 c1 k1),
    (PySem.W.mg_of X G a1),
    (Binds.all fun us hl => match us, hl with | [_], _ => rfl),
    (fund_mk (st := st_Numbering_9__init__) l2 c2 k2),
    (Binds.all fun us hl => match us, hl with | [_], _ => rfl),
    (fund_mk (st := st_Numbering_9number) l3 c3 k3),
    (Binds.all fun us hl => match us, hl with | [_, _], _ => rfl),
    (fund_mk (st := st_ways_of) l4 c4 k4),
    (PySem.W.mg_of X G a4),
    (Binds.all fun us hl => match us, hl with | [_, _], _ => rfl),
    (fund_mk (st := st_ways_of_numbers) l5 c5 k5),
    (PySem.W.mg_of X G a5),
    (Binds.all fun us hl => match us, hl with | [_], _ => rfl),
    (fund_mk (st := st_reached_from) l6 c6 k6),
    (PySem.W.mg_of X G a6),
    (Binds.all fun us hl => match us, hl with | [_, _], _ => rfl),
    (fund_mk (st := st_classes) l7 c7 k7),
    (PySem.W.mg_of X G a7),
    (Binds.all fun us hl => match us, hl with | [_, _], _ => rfl),
    (fund_mk (st := st__law_cell_at) l8 c8 k8),
    (PySem.W.mg_of X G a8),
    (Binds.all fun us hl => match us, hl with | [_, _], _ => rfl),
    (fund_mk (st := st__law_stream) l9 c9 k9),
    (PySem.W.mg_of X G a9),
    (Binds.all fun us hl => match us, hl with | [_, _], _ => rfl),
    (fund_mk (st := st__law_term) l10 c10 k10),
    (PySem.W.mg_of X G a10),
    (Binds.all fun us hl => match us, hl with | [_], _ => rfl),
    (fund_mk (st := st__law_reached) l11 c11 k11),
    (PySem.W.mg_of X G a11),
    (Binds.all fun us hl => match us, hl with | [_, _], _ => rfl),
    (fund_mk (st := st_law) l12 c12 k12),
    (PySem.W.mg_of X G a12),
    (Binds.all fun us hl => match us, hl with | [_], _ => rfl),
    (⟨pg0, hd0, po0, sa0⟩),
    (na_Numbering_numbers),
    (na_Numbering_terms),
    (⟨a3, i3, k3⟩),
    (⟨mk0, a2, i2, kc0⟩),
    (PySem.W.mg_of X G ac0),
    (PySem.W.mg_none_of X G z_dict),
    (PySem.W.mg_none_of X G z_enumerate),
    (PySem.W.mg_none_of X G z_isinstance),
    (PySem.W.mg_none_of X G z_len),
    (PySem.W.mg_none_of X G z_list),
    (PySem.W.mg_none_of X G z_range),
    (PySem.W.mg_none_of X G z_tuple)⟩, fun s u => .of_eq (bind_law _ _ _ _ _ _ [u] rfl)⟩
noncomputable def runLaw (FF n : Nat) : List D → Sto → Res D := callD tab fns FF n 12
theorem walk {n : Nat} {l : PySem.W.OpenLaw} {q : Program} {loose : List Str} {XP : (Str → Option Value) → Heap → Prop} {YP : World → Heap → Prop} {d : DefRec} {K : Params → PySem.W.Frag} (hn : l.most = some 63) (hdf : d.params.defaults = []) (hN : d.name = "law") (hr : Room (2 * n) callerA)
    (hY : ∀ (w : World) (h : Heap), YP w h → (K w.params).In h)
    (hT : ∀ (w : World) (mg : Str → Option Value) (h : Heap), (K w.params).In h → h.Ns mainGlobals mg → ∃ (ad : Nat → Addr) (fd : Nat → FuncData) (cf : Nat → Addr), Txt (K w.params) mg ad fd ⟨w, cf⟩ ∧ ∀ (s : Shared) (u : Value), BindsTo s (fd 12) ⟨[u], []⟩ [("_law_script", u)])
    (hm : ∀ ns : List Int, ns.length ≤ 63 → ∃ FF st, runLaw FF n [.loc 0] [.frz (ns.map D.int)] = .ok (.bl true) st) :
    PySem.W.WalkO q loose XP YP l.row.toRowW d [] (fun f vs => PySem.call f vs) := by
  refine L2.walk_of (n := 63) (k := 2 * n) (x := "_law_script") (CX := fun w => CXd l.prog w) (sp := fun w vs H Q E => ∀ cls, ∃ FF, spD (K w.params) cls 1 (runLaw FF n) vs H Q E) hn (by decide) hdf hr hY ?_ ?_ fun w H s e s' z => cx_none H s e s' z
  · intro w mg fa h X G hfa
    obtain ⟨ad, fd, cf, T, hb⟩ := hT w mg h X G
    rw [hN, T.m_law] at hfa
    cases hfa
    refine ⟨fd 12, hb, fun base _ _ => ?_⟩
    have F := fun FF => (all_ok (Pr := l.prog) (w := w) (base := base) (FF := FF) (cls := ⟨w, cf⟩) rfl T n).i_law
    exact ⟨fun vs H Q E h => let ⟨FF, h⟩ := h ⟨w, cf⟩; (F FF).len vs H Q E h, fun A outer s H args us vs Q E h1 h2 h3 h4 h => let ⟨FF, h⟩ := h ⟨w, cf⟩; (F FF).run A outer s H args us vs Q E h1 h2 h3 h4 h⟩
  · exact fun w H a ns hl hO hS cls => let ⟨FF, st, e⟩ := hm ns hl; ⟨FF, sp_start e H a hO hS⟩
end My
namespace My
open PySem L2 DD
local macro_rules | `(tactic| infer_instance) => `(tactic| first
 | with_reducible refine ws_cons ?_ | with_reducible refine ws_nil ?_ | with_reducible refine k_next ?_ | with_reducible refine k_ret ?_ | with_reducible refine kf_next ?_ | with_reducible refine kf_ret ?_
 | with_reducible refine w_var rfl ?_ | with_reducible refine w_cst ?_ | with_reducible refine w_cons ?_ | with_reducible refine w_nil ?_
 | with_reducible refine w_op ?_ | with_reducible refine w_cm ?_ | with_reducible refine w_call ?_ | with_reducible refine w_bt ?_ | with_reducible refine w_ix ?_ | with_reducible refine w_mt ?_
 | with_reducible refine ws_set ?_ | with_reducible refine ws_if ?_ | with_reducible refine ws_ret ?_ | with_reducible refine ws_ex ?_ | with_reducible refine ws_setf ?_ | with_reducible refine ws_for ?_ | with_reducible refine ws_forR ?_ | with_reducible refine ws_forE ?_ | with_reducible refine ws_dput ?_ | with_reducible refine ws_unp ?_ | with_reducible refine ws_unpL ?_ | with_reducible refine ws_par ?_ | with_reducible refine ws_aug rfl ?_
 | with_reducible refine wt_and ?_ | with_reducible refine wt_or ?_ | with_reducible refine wt_not ?_ | with_reducible refine wt_cm ?_ | with_reducible refine wt_call ?_ | with_reducible refine wt_bt ?_ | with_reducible refine wt_ix ?_ | with_reducible refine wt_isi ?_ | with_reducible refine wt_chn ?_
 | with_reducible refine w_and ?_ | with_reducible refine w_or ?_ | with_reducible refine w_not ?_ | with_reducible refine w_ifE ?_ | with_reducible refine w_isi ?_ | with_reducible refine w_chn ?_ | with_reducible refine w_tup ?_ | with_reducible refine w_lst ?_ | with_reducible refine w_neg ?_ | with_reducible refine w_fld ?_ | with_reducible refine w_meth ?_ | with_reducible refine w_mk ?_ | with_reducible refine w_sl ?_ | with_reducible refine w_icons ?_ | with_reducible refine w_inil ?_ | with_reducible refine w_dnew ?_ | with_reducible refine w_dnewN ?_
 | with_reducible refine wi_nil ?_ | with_reducible refine wi_cons ?_ | with_reducible refine w_comp ?_ | with_reducible refine w_dcomp ?_
 | with_reducible refine r_add ?_ | with_reducible refine r_sub ?_ | with_reducible refine r_eqi ?_ | with_reducible refine r_nei ?_ | with_reducible refine r_lt ?_ | with_reducible refine r_le ?_ | with_reducible refine r_gt ?_ | with_reducible refine r_ge ?_ | with_reducible refine r_isN ?_ | with_reducible refine r_notN ?_ | with_reducible refine r_lenT ?_ | with_reducible refine r_intB ?_ | with_reducible refine r_min ?_ | with_reducible refine r_max ?_
 | with_reducible refine r_fdiv (by decide) ?_ | with_reducible refine r_mod (by decide) ?_ | with_reducible refine r_mulR (by decide) ?_ | with_reducible refine r_mulL (by decide) ?_ | with_reducible refine r_pow (by decide) ?_
 | with_reducible refine wp_nt ?_ | with_reducible refine wp_nf ?_ | with_reducible refine wp_t ?_ | with_reducible refine wp_f ?_
 | with_reducible refine ⟨_, rfl, wp_t ?_⟩ | with_reducible refine ⟨_, rfl, wp_f ?_⟩
 | (with_reducible refine And.intro (a := _ < List.length _) (of_decide_eq_true rfl) ?_) | (with_reducible refine And.intro (a := List.length _ ≤ sizeLine) (of_decide_eq_true rfl) ?_))
abbrev Lk := Int × D × D
noncomputable def enc (l : Lk) : D := .tup [.int l.1, l.2.1, l.2.2]
noncomputable def r1 (s : List D) (l : Lk) : List D :=
 if l.2.2 ∈ (if l.2.1 ∈ s ∧ l.2.2 ∉ s then s ++ [l.2.2] else s) ∧ l.2.1 ∉ (if l.2.1 ∈ s ∧ l.2.2 ∉ s then s ++ [l.2.2] else s) then (if l.2.1 ∈ s ∧ l.2.2 ∉ s then s ++ [l.2.2] else s) ++ [l.2.1] else (if l.2.1 ∈ s ∧ l.2.2 ∉ s then s ++ [l.2.2] else s)
noncomputable def rnd (L : List Lk) (s : List D) : List D := L.foldl r1 s
noncomputable def rnds (L : List Lk) : Nat → List D → List D
 | 0, s => s
 | k + 1, s => rnds L k (rnd L s)
theorem r1_eq (s : List D) (l : Lk) : r1 s l = if l.2.1 ∈ s then (if l.2.2 ∈ s then s else s ++ [l.2.2]) else (if l.2.2 ∈ s then s ++ [l.2.1] else s) := by
 unfold r1
 by_cases h1 : l.2.1 ∈ s <;> by_cases h2 : l.2.2 ∈ s <;> simp [h1, h2]
theorem r1_sub {s : List D} {l : Lk} {x : D} (h : x ∈ s) : x ∈ r1 s l := by
 rw [r1_eq]
 split <;> split <;> simp [h]
theorem r1_two {s : List D} {l : Lk} : (l.2.1 ∈ s → l.2.2 ∈ r1 s l) ∧ (l.2.2 ∈ s → l.2.1 ∈ r1 s l) := by
 rw [r1_eq]
 by_cases h1 : l.2.1 ∈ s <;> by_cases h2 : l.2.2 ∈ s <;> simp [h1, h2]
theorem r1_gen {P : D → Prop} {s : List D} {l : Lk} (hl : P l.2.1 ↔ P l.2.2) (h : ∀ x ∈ s, P x) : ∀ x ∈ r1 s l, P x := by
 intro x hx
 rw [r1_eq] at hx
 split at hx
 · rename_i h1
   split at hx
   · exact h x hx
   · rcases List.mem_append.mp hx with z | z
     · exact h x z
     · rw [List.mem_singleton.mp z]; exact hl.mp (h _ h1)
 · split at hx
   · rename_i h2
     rcases List.mem_append.mp hx with z | z
     · exact h x z
     · rw [List.mem_singleton.mp z]; exact hl.mpr (h _ h2)
   · exact h x hx
theorem rnd_sub : ∀ (L : List Lk) {s : List D} {x : D}, x ∈ s → x ∈ rnd L s
 | [], _, _, h => h
 | l :: r, s, x, h => rnd_sub r (s := r1 s l) (r1_sub h)
theorem rnd_two : ∀ (L : List Lk) {s : List D}, ∀ l ∈ L, (l.2.1 ∈ s → l.2.2 ∈ rnd L s) ∧ (l.2.2 ∈ s → l.2.1 ∈ rnd L s)
 | l0 :: r, s, l, h => by
  rcases List.mem_cons.mp h with rfl | h
  · exact ⟨fun z => rnd_sub r (s := r1 s l) (r1_two.1 z), fun z => rnd_sub r (s := r1 s l) (r1_two.2 z)⟩
  · have := rnd_two r (s := r1 s l0) l h
    exact ⟨fun z => this.1 (r1_sub z), fun z => this.2 (r1_sub z)⟩
theorem rnd_gen {P : D → Prop} : ∀ (L : List Lk) {s : List D}, (∀ l ∈ L, P l.2.1 ↔ P l.2.2) → (∀ x ∈ s, P x) → ∀ x ∈ rnd L s, P x
 | [], _, _, h => h
 | l :: r, s, hl, h => rnd_gen r (s := r1 s l) (fun l' h' => hl l' (List.mem_cons_of_mem _ h')) (r1_gen (hl l List.mem_cons_self) h)
theorem rnds_gen {P : D → Prop} {L : List Lk} (hl : ∀ l ∈ L, P l.2.1 ↔ P l.2.2) : ∀ (k : Nat) {s : List D}, (∀ x ∈ s, P x) → ∀ x ∈ rnds L k s, P x
 | 0, _, h => h
 | k + 1, s, h => rnds_gen hl k (s := rnd L s) (rnd_gen L hl h)
theorem rnds_sub {L : List Lk} : ∀ (k : Nat) {s : List D} {x : D}, x ∈ s → x ∈ rnds L k s
 | 0, _, _, h => h
 | k + 1, s, x, h => rnds_sub k (s := rnd L s) (rnd_sub L h)
def Clo (L : List Lk) (s : List D) : Prop := ∀ l ∈ L, l.2.1 ∈ s ↔ l.2.2 ∈ s
theorem rnd_same : ∀ (L : List Lk) {s : List D}, Clo L s → rnd L s = s
 | [], _, _ => rfl
 | l :: r, s, h => by
  have e : r1 s l = s := by
   rw [r1_eq]
   have := h l List.mem_cons_self
   by_cases h1 : l.2.1 ∈ s
   · simp [h1, this.mp h1]
   · have h2 : l.2.2 ∉ s := fun z => h1 (this.mpr z)
     simp [h1, h2]
  show rnd r (r1 s l) = s
  rw [e]
  exact rnd_same r fun l' h' => h l' (List.mem_cons_of_mem _ h')
theorem rnds_same {L : List Lk} {s : List D} (h : Clo L s) : ∀ k, rnds L k s = s
 | 0 => rfl
 | k + 1 => by rw [rnds, rnd_same L h]; exact rnds_same h k
noncomputable def bad (L : List Lk) (s : List D) : Nat := L.countP fun l => !(decide (l.2.1 ∈ s) && decide (l.2.2 ∈ s))
theorem countP_le' {α : Type} {p q : α → Bool} (h : ∀ x, p x = true → q x = true) : ∀ L : List α, L.countP p ≤ L.countP q
 | [] => by simp
 | a :: r => by
  have := countP_le' h r
  rw [List.countP_cons, List.countP_cons]
  by_cases hp : p a = true
  · simp [hp, h a hp]; omega
  · simp [hp]; omega
theorem countP_lt' {α : Type} {p q : α → Bool} (h : ∀ x, p x = true → q x = true) : ∀ {L : List α} {a : α}, a ∈ L → p a = false → q a = true → L.countP p < L.countP q
 | b :: r, a, ha, h1, h2 => by
  rw [List.countP_cons, List.countP_cons]
  rcases List.mem_cons.mp ha with rfl | ha
  · have := countP_le' h r
    simp [h1, h2]; omega
  · have := countP_lt' h ha h1 h2
    by_cases hp : p b = true
    · simp [hp, h b hp]; omega
    · simp [hp]; omega
theorem rnds_clo {L : List Lk} : ∀ (k : Nat) {s : List D}, bad L s ≤ k → Clo L (rnds L k s)
 | 0, s, h => by
  intro l hl
  have : bad L s = 0 := by omega
  unfold bad at this
  rw [List.countP_eq_zero] at this
  have := this l hl
  simp at this
  exact ⟨fun _ => this.2, fun _ => this.1⟩
 | k + 1, s, h => by
  by_cases hc : Clo L s
  · rw [rnds_same hc]; exact hc
  · refine rnds_clo k (s := rnd L s) ?_
    have : ∃ l ∈ L, ¬ (l.2.1 ∈ s ↔ l.2.2 ∈ s) := by
     refine Classical.byContradiction fun z => hc fun l hl => ?_
     exact Classical.byContradiction fun z2 => z ⟨l, hl, z2⟩
    obtain ⟨l, hl, hne⟩ := this
    have h2 := rnd_two L (s := s) l hl
    have lt : bad L (rnd L s) < bad L s := by
     refine countP_lt' (fun l h => ?_) hl ?_ ?_
     · simp at h ⊢
       exact h.elim (fun z => .inl fun y => z (rnd_sub L y)) fun z => .inr fun y => z (rnd_sub L y)
     · by_cases z1 : l.2.1 ∈ s
       · simp [rnd_sub L z1, h2.1 z1]
       · by_cases z2 : l.2.2 ∈ s
         · simp [rnd_sub L z2, h2.2 z2]
         · exact absurd ⟨fun z => absurd z z1, fun z => absurd z z2⟩ hne
     · simp
       by_cases z1 : l.2.1 ∈ s
       · exact .inr fun z2 => hne ⟨fun _ => z2, fun _ => z1⟩
       · exact .inl z1
    omega
noncomputable def lawR (L : List Lk) (a : D) : List D := rnds L L.length [a]
theorem lawR_self {L : List Lk} {a : D} : a ∈ lawR L a := rnds_sub _ (by simp)
theorem lawR_clo {L : List Lk} {a : D} : Clo L (lawR L a) := rnds_clo _ List.countP_le_length
theorem lawR_gen {L : List Lk} {a : D} {P : D → Prop} (hl : ∀ l ∈ L, P l.2.1 ↔ P l.2.2) (h : P a) : ∀ x ∈ lawR L a, P x := rnds_gen hl _ (by simpa using h)
noncomputable def w1 (n : Int) (at' : List D) (s : List D) (l : Lk) : List D :=
 if l.1 = n ∧ l.2.2 ∈ at' ∧ l.2.1 ∉ (if l.1 = n ∧ l.2.1 ∈ at' ∧ l.2.2 ∉ s then s ++ [l.2.2] else s) then (if l.1 = n ∧ l.2.1 ∈ at' ∧ l.2.2 ∉ s then s ++ [l.2.2] else s) ++ [l.2.1] else (if l.1 = n ∧ l.2.1 ∈ at' ∧ l.2.2 ∉ s then s ++ [l.2.2] else s)
noncomputable def wk1 (L : List Lk) (n : Int) (at' : List D) : List D := L.foldl (w1 n at') []
noncomputable def wk (L : List Lk) (at' : List D) (ms : List Int) : List D := ms.foldl (fun a n => wk1 L n a) at'
abbrev NLk := Int × Nat × Nat
noncomputable def ways1 (h : Nat) (l : NLk) : List (Int × Nat) := (if l.2.1 = h then [(l.1, l.2.2)] else []) ++ (if l.2.2 = h then [(l.1, l.2.1)] else [])
noncomputable def ways (NL : List NLk) (h : Nat) : List (Int × Nat) := NL.flatMap (ways1 h)
theorem mem_ways {NL : List NLk} {h e : Nat} {m : Int} : (m, e) ∈ ways NL h ↔ ∃ l ∈ NL, l.1 = m ∧ ((l.2.1 = h ∧ l.2.2 = e) ∨ (l.2.2 = h ∧ l.2.1 = e)) := by
 unfold ways
 rw [List.mem_flatMap]
 refine ⟨fun ⟨l, hl, h1⟩ => ⟨l, hl, ?_⟩, fun ⟨l, hl, h1, h2⟩ => ⟨l, hl, ?_⟩⟩
 · unfold ways1 at h1
   rcases List.mem_append.mp h1 with z | z
   · split at z
     · rename_i q; simp at z; exact ⟨z.1.symm, .inl ⟨q, z.2.symm⟩⟩
     · cases z
   · split at z
     · rename_i q; simp at z; exact ⟨z.1.symm, .inr ⟨q, z.2.symm⟩⟩
     · cases z
 · unfold ways1
   rcases h2 with ⟨z1, z2⟩ | ⟨z1, z2⟩
   · exact List.mem_append_left _ (by rw [if_pos z1]; simp [h1, z2])
   · exact List.mem_append_right _ (by rw [if_pos z1]; simp [h1, z2])
abbrev RT := List (Nat × Option (Int × Nat))
noncomputable def ks (R : RT) : List Nat := R.map (·.1)
noncomputable def s1 (h : Nat) (R : RT) (x : Int × Nat) : RT := if x.2 ∈ ks R then R else R ++ [(x.2, some (x.1, h))]
theorem ks_at {R : RT} {e : Nat} (h : e ∈ ks R) : ∃ (i : Nat) (p : Option (Int × Nat)), R[i]? = some (e, p) := by
 obtain ⟨x, hx, rfl⟩ := List.mem_map.mp h
 obtain ⟨i, hi⟩ := List.getElem?_of_mem hx
 exact ⟨i, x.2, by rw [hi]⟩
theorem at_ks {R : RT} {e i : Nat} {p : Option (Int × Nat)} (h : R[i]? = some (e, p)) : e ∈ ks R := List.mem_map.mpr ⟨_, List.mem_of_getElem? h, rfl⟩
structure RI (NL : List NLk) (a : Nat) (R : RT) : Prop where
 z : R[0]? = some (a, none)
 nd : (ks R).Nodup
 up : ∀ i e p, R[i]? = some (e, p) → i ≠ 0 → ∃ m h j q, p = some (m, h) ∧ j < i ∧ R[j]? = some (h, q) ∧ (m, e) ∈ ways NL h
theorem s1_pre (h : Nat) (R : RT) (x : Int × Nat) : R <+: s1 h R x := by unfold s1; split <;> simp
theorem pre_at {α : Type} {R S : List α} (h : R <+: S) {i : Nat} {x : α} (e : R[i]? = some x) : S[i]? = some x := by
 obtain ⟨t, rfl⟩ := h
 rw [List.getElem?_append_left (List.getElem?_eq_some_iff.mp e).1]; exact e
theorem RI.s1 {NL : List NLk} {a : Nat} {R : RT} {h e : Nat} {m : Int} (I : RI NL a R) (hh : h ∈ ks R) (hw : (m, e) ∈ ways NL h) : RI NL a (My.s1 h R (m, e)) := by
 unfold My.s1
 split
 · exact I
 · rename_i hne
   refine ⟨pre_at (List.prefix_append _ _) I.z, ?_, fun i x p hx hi => ?_⟩
   · unfold ks
     rw [List.map_append, List.nodup_append]
     refine ⟨I.nd, by simp, fun x hx y hy => ?_⟩
     simp at hy
     subst hy
     exact fun z => hne (z ▸ hx)
   · by_cases hl : i < R.length
     · rw [List.getElem?_append_left hl] at hx
       obtain ⟨m, h, j, q, r1, r2, r3, r4⟩ := I.up i x p hx hi
       exact ⟨m, h, j, q, r1, r2, pre_at (List.prefix_append _ _) r3, r4⟩
     · rw [List.getElem?_append_right (by omega)] at hx
       have hi2 : i - R.length = 0 := by
        cases z : i - R.length with
        | zero => rfl
        | succ k => rw [z] at hx; cases hx
       rw [hi2] at hx
       cases hx
       obtain ⟨j, q, hj⟩ := ks_at hh
       have := (List.getElem?_eq_some_iff.mp hj).1
       exact ⟨m, h, j, q, rfl, by omega, pre_at (List.prefix_append _ _) hj, hw⟩
theorem s1_has (h : Nat) (R : RT) (x : Int × Nat) : x.2 ∈ ks (s1 h R x) := by
 unfold s1
 split
 · assumption
 · simp [ks]
theorem ks_pre {R S : RT} (h : R <+: S) {e : Nat} (he : e ∈ ks R) : e ∈ ks S := by
 obtain ⟨i, p, hi⟩ := ks_at he
 exact at_ks (pre_at h hi)
theorem fs_pre (h : Nat) : ∀ (W : List (Int × Nat)) (R : RT), R <+: W.foldl (s1 h) R
 | [], R => List.prefix_refl _
 | x :: r, R => (s1_pre h R x).trans (fs_pre h r _)
theorem fs_has (h : Nat) : ∀ (W : List (Int × Nat)) (R : RT), ∀ x ∈ W, x.2 ∈ ks (W.foldl (s1 h) R)
 | y :: r, R, x, hx => by
  rcases List.mem_cons.mp hx with rfl | hx
  · exact ks_pre (fs_pre h r _) (s1_has h R x)
  · exact fs_has h r _ x hx
theorem RI.fs {NL : List NLk} {a h : Nat} : ∀ {W : List (Int × Nat)} {R : RT}, RI NL a R → h ∈ ks R → (∀ x ∈ W, x ∈ ways NL h) → RI NL a (W.foldl (My.s1 h) R)
 | [], R, I, _, _ => I
 | x :: r, R, I, hh, hw => RI.fs (W := r) (I.s1 (m := x.1) (e := x.2) hh (hw x List.mem_cons_self)) (ks_pre (s1_pre h R x) hh) fun y hy => hw y (List.mem_cons_of_mem _ hy)
noncomputable def bst (NL : List NLk) (a : Nat) : Nat → RT
 | 0 => [(a, none)]
 | k + 1 => match (bst NL a k)[k]? with
  | some x => (ways NL x.1).foldl (s1 x.1) (bst NL a k)
  | none => bst NL a k
theorem bst_ri (NL : List NLk) (a : Nat) : ∀ k, RI NL a (bst NL a k)
  | 0 => ⟨rfl, by simp [bst, ks], fun i e p h hi => by
      cases i with
      | zero => exact absurd rfl hi
      | succ i => simp [bst] at h⟩
  | k + 1 => by
    have I := bst_ri NL a k
    unfold bst
    split
    · rename_i x hx
      exact I.fs (at_ks (p := x.2) hx) fun _ h => h
    · exact I
theorem bst_pre1 (NL : List NLk) (a k : Nat) : bst NL a k <+: bst NL a (k + 1) := by
 show bst NL a k <+: (match (bst NL a k)[k]? with
  | some x => (ways NL x.1).foldl (s1 x.1) (bst NL a k)
  | none => bst NL a k)
 split
 · exact fs_pre _ _ _
 · exact List.prefix_refl _
theorem bst_clo (NL : List NLk) (a : Nat) : ∀ k i h q, i < k → (bst NL a k)[i]? = some (h, q) → ∀ x ∈ ways NL h, x.2 ∈ ks (bst NL a k)
 | k + 1, i, h, q, hi, he, x, hx => by
  by_cases hik : i < k
  · cases z : (bst NL a k)[i]? with
    | some y =>
     have := pre_at (bst_pre1 NL a k) z
     rw [he] at this; cases this
     exact ks_pre (bst_pre1 NL a k) (bst_clo NL a k i h q hik z x hx)
    | none =>
     have hl : (bst NL a k).length ≤ i := by simpa using z
     have : (bst NL a k)[k]? = none := by simp; omega
     have e : bst NL a (k + 1) = bst NL a k := by simp only [bst, this]
     rw [e, z] at he; cases he
  · have : i = k := by omega
    subst this
    cases z : (bst NL a i)[i]? with
    | some y =>
     have := pre_at (bst_pre1 NL a i) z
     rw [he] at this; cases this
     have e : bst NL a (i + 1) = (ways NL h).foldl (s1 h) (bst NL a i) := by simp only [bst, z]
     rw [e]
     exact fs_has h _ _ x hx
    | none =>
     have e : bst NL a (i + 1) = bst NL a i := by simp only [bst, z]
     rw [e, z] at he; cases he
theorem bst_stop {NL : List NLk} {a k : Nat} (h : (bst NL a k).length ≤ k) : ∀ j, bst NL a (k + j) = bst NL a k
 | 0 => rfl
 | j + 1 => by
  have ih := bst_stop h j
  have : (bst NL a (k + j))[k + j]? = none := by rw [ih]; simp; omega
  show bst NL a (k + j + 1) = _
  simp only [bst, this]
  exact ih
theorem nodup_len : ∀ {l m : List Nat}, l.Nodup → (∀ x ∈ l, x ∈ m) → l.length ≤ m.length
 | [], _, _, _ => Nat.zero_le _
 | x :: r, m, hn, hs => by
  rw [List.nodup_cons] at hn
  have h1 := hs x List.mem_cons_self
  have := nodup_len (l := r) (m := m.erase x) hn.2 fun y hy => (List.mem_erase_of_ne (fun e : y = x => hn.1 (e ▸ hy))).mpr (hs y (List.mem_cons_of_mem _ hy))
  rw [List.length_erase_of_mem h1] at this
  have : 0 < m.length := List.length_pos_of_mem h1
  simp; omega
theorem fm_len : ∀ NL : List NLk, (NL.flatMap fun l => [l.2.1, l.2.2]).length = 2 * NL.length
 | [] => rfl
 | l :: r => by simp [List.flatMap_cons, fm_len r]; omega
theorem RI.len {NL : List NLk} {a : Nat} {R : RT} (I : RI NL a R) : R.length ≤ 2 * NL.length + 1 := by
 have := nodup_len (l := ks R) (m := a :: NL.flatMap fun l => [l.2.1, l.2.2]) I.nd fun x hx => by
  obtain ⟨i, p, hi⟩ := ks_at hx
  by_cases h0 : i = 0
  · subst h0
    rw [I.z] at hi; cases hi; exact List.mem_cons_self
  · obtain ⟨m, h, j, q, _, _, _, hw⟩ := I.up i x p hi h0
    obtain ⟨l, hl, _, z⟩ := mem_ways.mp hw
    refine List.mem_cons_of_mem _ (List.mem_flatMap.mpr ⟨l, hl, ?_⟩)
    rcases z with ⟨_, z⟩ | ⟨_, z⟩ <;> simp [z]
 rw [List.length_cons, fm_len] at this
 simpa [ks] using this
noncomputable def fin' (NL : List NLk) (a : Nat) : RT := bst NL a (2 * NL.length + 1)
theorem fin_of {NL : List NLk} {a k : Nat} (h : (bst NL a k).length ≤ k) (hk : k ≤ 2 * NL.length + 1) : bst NL a k = fin' NL a := by
 have := bst_stop h (2 * NL.length + 1 - k)
 rw [show k + (2 * NL.length + 1 - k) = 2 * NL.length + 1 by omega] at this
 exact this.symm
theorem fin_ri (NL : List NLk) (a : Nat) : RI NL a (fin' NL a) := bst_ri NL a _
theorem fin_clo {NL : List NLk} {a h : Nat} (hh : h ∈ ks (fin' NL a)) : ∀ x ∈ ways NL h, x.2 ∈ ks (fin' NL a) := by
 obtain ⟨i, p, hi⟩ := ks_at hh
 have h1 := (List.getElem?_eq_some_iff.mp hi).1
 have h2 := (fin_ri NL a).len
 exact bst_clo NL a _ i h p (by omega) hi
theorem look_at : ∀ {R : RT}, (ks R).Nodup → ∀ {i e : Nat} {p : Option (Int × Nat)}, R[i]? = some (e, p) → R.lookup e = some p
 | (x, y) :: r, hn, 0, e, p, h => by
  simp at h
  rw [h.1, h.2]; simp
 | (x, y) :: r, hn, i + 1, e, p, h => by
  have hn' : x ∉ ks r ∧ (ks r).Nodup := by
   have : ks ((x, y) :: r) = x :: ks r := rfl
   rw [this] at hn
   exact List.nodup_cons.mp hn
  have h : r[i]? = some (e, p) := by simpa using h
  have hne : e ≠ x := fun z => hn'.1 (z ▸ at_ks h)
  have : (e == x) = false := by simpa using hne
  simp only [List.lookup, this]
  exact look_at hn'.2 h
noncomputable def bk (R : RT) (a : Nat) : Nat → Nat → List Int
 | 0, _ => []
 | g + 1, e => if e = a then [] else match R.lookup e with
  | some (some (m, h)) => m :: bk R a g h
  | _ => []
section
variable {NL : List NLk} {a : Nat} {R : RT}
theorem bk_step (I : RI NL a R) {i e : Nat} {p : Option (Int × Nat)} (h : R[i]? = some (e, p)) (he : e ≠ a) : ∃ m h' j q, p = some (m, h') ∧ j < i ∧ R[j]? = some (h', q) ∧ (m, e) ∈ ways NL h' ∧ R.lookup e = some (some (m, h')) ∧ ∀ g, bk R a (g + 1) e = m :: bk R a g h' := by
 have h0 : i ≠ 0 := fun z => by subst z; rw [I.z] at h; cases h; exact he rfl
 obtain ⟨m, h', j, q, rfl, hj, hq, hw⟩ := I.up i e p h h0
 have := look_at I.nd h
 exact ⟨m, h', j, q, rfl, hj, hq, hw, this, fun g => by simp only [bk, if_neg he, this]⟩
end
section
variable {L : List Lk} {f : D → Nat} {S : D → Prop}
noncomputable def nl (f : D → Nat) (L : List Lk) : List NLk := L.map fun l => (l.1, f l.2.1, f l.2.2)
theorem ways_nl {h e : Nat} {m : Int} (hw : (m, e) ∈ ways (nl f L) h) : ∃ l ∈ L, l.1 = m ∧ ((f l.2.1 = h ∧ f l.2.2 = e) ∨ (f l.2.2 = h ∧ f l.2.1 = e)) := by
 obtain ⟨k, hk, h1, h2⟩ := mem_ways.mp hw
 obtain ⟨l, hl, rfl⟩ := List.mem_map.mp hk
 exact ⟨l, hl, h1, h2⟩
variable (inj : ∀ x y, S x → S y → f x = f y → x = y) (hS : ∀ l ∈ L, S l.2.1 ∧ S l.2.2)
include inj hS
theorem in_lawR {a : D} {R : RT} (ha : S a) (I : RI (nl f L) (f a) R) : ∀ (i : Nat) (x : D) (p : Option (Int × Nat)), S x → R[i]? = some (f x, p) → x ∈ lawR L a := by
 intro i
 induction i using Nat.strongRecOn with
 | _ i ih =>
  intro x p hx h
  by_cases he : f x = f a
  · rw [inj x a hx ha he]; exact lawR_self
  · obtain ⟨m', h', j, q, rfl, hj, hq, hw, hl, hb⟩ := bk_step I h he
    obtain ⟨l, hl, h1, h2⟩ := ways_nl hw
    rcases h2 with ⟨z1, z2⟩ | ⟨z1, z2⟩
    · have e2 := inj _ _ (hS l hl).2 hx z2
      rw [← e2]
      exact (lawR_clo l hl).mp (ih j hj l.2.1 q (hS l hl).1 (by rw [z1]; exact hq))
    · have e2 := inj _ _ (hS l hl).1 hx z2
      rw [← e2]
      exact (lawR_clo l hl).mpr (ih j hj l.2.2 q (hS l hl).2 (by rw [z1]; exact hq))
omit inj hS in
theorem lawR_in {a : D} : ∀ x ∈ lawR L a, f x ∈ ks (fin' (nl f L) (f a)) := by
 refine lawR_gen (P := fun x => f x ∈ ks (fin' (nl f L) (f a))) (fun l hl => ?_) (at_ks (fin_ri _ _).z)
 have w1 : (l.1, f l.2.2) ∈ ways (nl f L) (f l.2.1) := mem_ways.mpr ⟨_, List.mem_map.mpr ⟨l, hl, rfl⟩, rfl, .inl ⟨rfl, rfl⟩⟩
 have w2 : (l.1, f l.2.1) ∈ ways (nl f L) (f l.2.2) := mem_ways.mpr ⟨_, List.mem_map.mpr ⟨l, hl, rfl⟩, rfl, .inr ⟨rfl, rfl⟩⟩
 exact ⟨fun z => fin_clo z _ w1, fun z => fin_clo z _ w2⟩
end
section
variable {FF n : Nat} {st : Sto}
abbrev C (FF n : Nat) := callD tab fns FF n
theorem call_at {FF n f : Nat} {args : List D} {st : Sto} {fn : Fn} (h : fns[f]? = some fn) (hl : args.length = fn.np) (hn : fn.np ≤ fn.nl) :
    C FF (n + 1) f args st = fin (execSs tab (C FF n) FF fn.body (args.map some ++ List.replicate (fn.nl - fn.np) none) st) := by
  show (match fns[f]? with
      | some fn => if args.length = fn.np ∧ fn.np ≤ fn.nl then fin (execSs tab (callD tab fns FF n) FF fn.body (args.map some ++ List.replicate (fn.nl - fn.np) none) st) else .bad
      | none => .bad) = _
  rw [h]; simp only; rw [if_pos ⟨hl, hn⟩]
abbrev W (x : String) : D := .str (Str.ofString x)
theorem szl (k : Nat) (h : k ≤ 16000000) : k ≤ sizeLine := Nat.le_trans h (by decide)
theorem lay_plus : PyData.canLay0 (.str (Str.ofString "plus")) = true := by decide +kernel
theorem s_plus_call : (Str.ofString "plus" = Str.ofString "call") = False := by simp only [eq_iff_iff, iff_false]; decide +kernel
theorem s_plus_weigh : (Str.ofString "plus" = Str.ofString "weigh") = False := by simp only [eq_iff_iff, iff_false]; decide +kernel
theorem s_plus_read : (Str.ofString "plus" = Str.ofString "read") = False := by simp only [eq_iff_iff, iff_false]; decide +kernel
theorem s_plus_put : (Str.ofString "plus" = Str.ofString "put") = False := by simp only [eq_iff_iff, iff_false]; decide +kernel
theorem s_plus_number : (Str.ofString "plus" = Str.ofString "number") = False := by simp only [eq_iff_iff, iff_false]; decide +kernel
theorem s_plus_unknown : (Str.ofString "plus" = Str.ofString "unknown") = False := by simp only [eq_iff_iff, iff_false]; decide +kernel
theorem lay_call : PyData.canLay0 (.str (Str.ofString "call")) = true := by decide +kernel
theorem s_call_plus : (Str.ofString "call" = Str.ofString "plus") = False := by simp only [eq_iff_iff, iff_false]; decide +kernel
theorem s_call_weigh : (Str.ofString "call" = Str.ofString "weigh") = False := by simp only [eq_iff_iff, iff_false]; decide +kernel
theorem s_call_read : (Str.ofString "call" = Str.ofString "read") = False := by simp only [eq_iff_iff, iff_false]; decide +kernel
theorem s_call_put : (Str.ofString "call" = Str.ofString "put") = False := by simp only [eq_iff_iff, iff_false]; decide +kernel
theorem s_call_number : (Str.ofString "call" = Str.ofString "number") = False := by simp only [eq_iff_iff, iff_false]; decide +kernel
theorem s_call_unknown : (Str.ofString "call" = Str.ofString "unknown") = False := by simp only [eq_iff_iff, iff_false]; decide +kernel
theorem lay_weigh : PyData.canLay0 (.str (Str.ofString "weigh")) = true := by decide +kernel
theorem s_weigh_plus : (Str.ofString "weigh" = Str.ofString "plus") = False := by simp only [eq_iff_iff, iff_false]; decide +kernel
theorem s_weigh_call : (Str.ofString "weigh" = Str.ofString "call") = False := by simp only [eq_iff_iff, iff_false]; decide +kernel
theorem s_weigh_read : (Str.ofString "weigh" = Str.ofString "read") = False := by simp only [eq_iff_iff, iff_false]; decide +kernel
theorem s_weigh_put : (Str.ofString "weigh" = Str.ofString "put") = False := by simp only [eq_iff_iff, iff_false]; decide +kernel
theorem s_weigh_number : (Str.ofString "weigh" = Str.ofString "number") = False := by simp only [eq_iff_iff, iff_false]; decide +kernel
theorem s_weigh_unknown : (Str.ofString "weigh" = Str.ofString "unknown") = False := by simp only [eq_iff_iff, iff_false]; decide +kernel
theorem lay_read : PyData.canLay0 (.str (Str.ofString "read")) = true := by decide +kernel
theorem s_read_plus : (Str.ofString "read" = Str.ofString "plus") = False := by simp only [eq_iff_iff, iff_false]; decide +kernel
theorem s_read_call : (Str.ofString "read" = Str.ofString "call") = False := by simp only [eq_iff_iff, iff_false]; decide +kernel
theorem s_read_weigh : (Str.ofString "read" = Str.ofString "weigh") = False := by simp only [eq_iff_iff, iff_false]; decide +kernel
theorem s_read_put : (Str.ofString "read" = Str.ofString "put") = False := by simp only [eq_iff_iff, iff_false]; decide +kernel
theorem s_read_number : (Str.ofString "read" = Str.ofString "number") = False := by simp only [eq_iff_iff, iff_false]; decide +kernel
theorem s_read_unknown : (Str.ofString "read" = Str.ofString "unknown") = False := by simp only [eq_iff_iff, iff_false]; decide +kernel
theorem lay_put : PyData.canLay0 (.str (Str.ofString "put")) = true := by decide +kernel
theorem s_put_plus : (Str.ofString "put" = Str.ofString "plus") = False := by simp only [eq_iff_iff, iff_false]; decide +kernel
theorem s_put_call : (Str.ofString "put" = Str.ofString "call") = False := by simp only [eq_iff_iff, iff_false]; decide +kernel
theorem s_put_weigh : (Str.ofString "put" = Str.ofString "weigh") = False := by simp only [eq_iff_iff, iff_false]; decide +kernel
theorem s_put_read : (Str.ofString "put" = Str.ofString "read") = False := by simp only [eq_iff_iff, iff_false]; decide +kernel
theorem s_put_number : (Str.ofString "put" = Str.ofString "number") = False := by simp only [eq_iff_iff, iff_false]; decide +kernel
theorem s_put_unknown : (Str.ofString "put" = Str.ofString "unknown") = False := by simp only [eq_iff_iff, iff_false]; decide +kernel
theorem lay_number : PyData.canLay0 (.str (Str.ofString "number")) = true := by decide +kernel
theorem s_number_plus : (Str.ofString "number" = Str.ofString "plus") = False := by simp only [eq_iff_iff, iff_false]; decide +kernel
theorem s_number_call : (Str.ofString "number" = Str.ofString "call") = False := by simp only [eq_iff_iff, iff_false]; decide +kernel
theorem s_number_weigh : (Str.ofString "number" = Str.ofString "weigh") = False := by simp only [eq_iff_iff, iff_false]; decide +kernel
theorem s_number_read : (Str.ofString "number" = Str.ofString "read") = False := by simp only [eq_iff_iff, iff_false]; decide +kernel
theorem s_number_put : (Str.ofString "number" = Str.ofString "put") = False := by simp only [eq_iff_iff, iff_false]; decide +kernel
theorem s_number_unknown : (Str.ofString "number" = Str.ofString "unknown") = False := by simp only [eq_iff_iff, iff_false]; decide +kernel
theorem lay_unknown : PyData.canLay0 (.str (Str.ofString "unknown")) = true := by decide +kernel
theorem s_unknown_plus : (Str.ofString "unknown" = Str.ofString "plus") = False := by simp only [eq_iff_iff, iff_false]; decide +kernel
theorem s_unknown_call : (Str.ofString "unknown" = Str.ofString "call") = False := by simp only [eq_iff_iff, iff_false]; decide +kernel
theorem s_unknown_weigh : (Str.ofString "unknown" = Str.ofString "weigh") = False := by simp only [eq_iff_iff, iff_false]; decide +kernel
theorem s_unknown_read : (Str.ofString "unknown" = Str.ofString "read") = False := by simp only [eq_iff_iff, iff_false]; decide +kernel
theorem s_unknown_put : (Str.ofString "unknown" = Str.ofString "put") = False := by simp only [eq_iff_iff, iff_false]; decide +kernel
theorem s_unknown_number : (Str.ofString "unknown" = Str.ofString "number") = False := by simp only [eq_iff_iff, iff_false]; decide +kernel
theorem okW {n : Nat} {x : Str} (h : PyData.canLay0 (.str x) = true) : okN n (.str x) = true := by cases n <;> simpa [okN] using h
inductive Shape : D → Prop
 | unk (x : Str) (hx : PyData.canLay0 (.str x) = true) : Shape (.tup [W "unknown", .str x])
 | num (i j : Int) : Shape (.tup [W "number", .tup [.int i, .int j]])
 | wei (i j : Int) (t : D) : Shape (.tup [W "weigh", .tup [.int i, .int j], t])
 | plus (ts : List D) : ts.length ≤ 3 → Shape (.tup [W "plus", .tup ts])
 | call (f : Str) (hx : PyData.canLay0 (.str f) = true) (ts : List D) : ts.length ≤ 3 → Shape (.tup [W "call", .str f, .tup ts])
 | read (a p : D) : Shape (.tup [W "read", a, p])
 | put (a p l : D) : Shape (.tup [W "put", a, p, l])
noncomputable def inn : D → List D
 | .tup (.str w :: r) => if w = Str.ofString "plus" then (match r with | [.tup ts] => ts | _ => []) else if w = Str.ofString "call" then (match r with | [_, .tup ts] => ts | _ => [])
  else if w = Str.ofString "weigh" then r.drop 1 else if w = Str.ofString "read" ∨ w = Str.ofString "put" then r else []
 | _ => []
noncomputable def lab : D → D
 | .tup (.str w :: r) => if w = Str.ofString "plus" ∨ w = Str.ofString "read" ∨ w = Str.ofString "put" then .tup [.str w] else .tup (.str w :: r.take 1)
 | _ => .non
theorem terms_in {d : D} (h : Shape d) : C FF (n + 1) 0 [d] st = .ok (.tup (inn d)) st := by
 rw [call_at (fn := ⟨1, 2, c_terms_in⟩) rfl rfl (by decide)]
 have hs2 := szl 2 (by decide)
 have hs0 := szl 0 (by decide)
 cases h <;>
 simp [c_terms_in, x_cons, x_nil, x_set, x_ret, x_if, evalE, evalEs, evalIs, evalT, fin, getV, ix_T, L2.atI, L2.ixN, m_eqN, m_inT, okW, okN, lay_plus, lay_call, lay_weigh, lay_read, lay_put, lay_number, lay_unknown, hs2, hs0, s_plus_call, s_plus_weigh, s_plus_read, s_plus_put, s_plus_number, s_plus_unknown, s_call_plus, s_call_weigh, s_call_read, s_call_put, s_call_number, s_call_unknown, s_weigh_plus, s_weigh_call, s_weigh_read, s_weigh_put, s_weigh_number, s_weigh_unknown, s_read_plus, s_read_call, s_read_weigh, s_read_put, s_read_number, s_read_unknown, s_put_plus, s_put_call, s_put_weigh, s_put_read, s_put_number, s_put_unknown, s_number_plus, s_number_call, s_number_weigh, s_number_read, s_number_put, s_number_unknown, s_unknown_plus, s_unknown_call, s_unknown_weigh, s_unknown_read, s_unknown_put, s_unknown_number, inn, slD, slParts, cutD, HT.sIx]
theorem label_of {d : D} (h : Shape d) : C FF (n + 1) 1 [d] st = .ok (lab d) st := by
 rw [call_at (fn := ⟨1, 1, c_label_of⟩) rfl rfl (by decide)]
 have hs3 := szl 3 (by decide)
 cases h <;>
 simp [c_label_of, x_cons, x_nil, x_set, x_ret, x_if, evalE, evalEs, evalIs, evalT, fin, getV, ix_T, L2.atI, L2.ixN, m_eqN, m_inT, okW, okN, lay_plus, lay_call, lay_weigh, lay_read, lay_put, lay_number, lay_unknown, hs3, s_plus_call, s_plus_weigh, s_plus_read, s_plus_put, s_plus_number, s_plus_unknown, s_call_plus, s_call_weigh, s_call_read, s_call_put, s_call_number, s_call_unknown, s_weigh_plus, s_weigh_call, s_weigh_read, s_weigh_put, s_weigh_number, s_weigh_unknown, s_read_plus, s_read_call, s_read_weigh, s_read_put, s_read_number, s_read_unknown, s_put_plus, s_put_call, s_put_weigh, s_put_read, s_put_number, s_put_unknown, s_number_plus, s_number_call, s_number_weigh, s_number_read, s_number_put, s_number_unknown, s_unknown_plus, s_unknown_call, s_unknown_weigh, s_unknown_read, s_unknown_put, s_unknown_number, lab, slD, slParts, cutD, HT.sIx]
end
def Tm : Nat → D → Prop
 | 0, _ => False
 | n + 1, d => Shape d ∧ ∀ t ∈ inn d, Tm n t
theorem Tm.shape : ∀ {n : Nat} {d : D}, Tm n d → Shape d
 | 0, _, h => h.elim
 | n + 1, _, h => h.1
theorem inn_unk {x : Str} : inn (.tup [W "unknown", .str x]) = [] := by simp [inn, s_plus_call, s_plus_weigh, s_plus_read, s_plus_put, s_plus_number, s_plus_unknown, s_call_plus, s_call_weigh, s_call_read, s_call_put, s_call_number, s_call_unknown, s_weigh_plus, s_weigh_call, s_weigh_read, s_weigh_put, s_weigh_number, s_weigh_unknown, s_read_plus, s_read_call, s_read_weigh, s_read_put, s_read_number, s_read_unknown, s_put_plus, s_put_call, s_put_weigh, s_put_read, s_put_number, s_put_unknown, s_number_plus, s_number_call, s_number_weigh, s_number_read, s_number_put, s_number_unknown, s_unknown_plus, s_unknown_call, s_unknown_weigh, s_unknown_read, s_unknown_put, s_unknown_number]
theorem inn_wei {i j : Int} {t : D} : inn (.tup [W "weigh", .tup [.int i, .int j], t]) = [t] := by simp [inn, s_plus_call, s_plus_weigh, s_plus_read, s_plus_put, s_plus_number, s_plus_unknown, s_call_plus, s_call_weigh, s_call_read, s_call_put, s_call_number, s_call_unknown, s_weigh_plus, s_weigh_call, s_weigh_read, s_weigh_put, s_weigh_number, s_weigh_unknown, s_read_plus, s_read_call, s_read_weigh, s_read_put, s_read_number, s_read_unknown, s_put_plus, s_put_call, s_put_weigh, s_put_read, s_put_number, s_put_unknown, s_number_plus, s_number_call, s_number_weigh, s_number_read, s_number_put, s_number_unknown, s_unknown_plus, s_unknown_call, s_unknown_weigh, s_unknown_read, s_unknown_put, s_unknown_number]
theorem inn_plus {ts : List D} : inn (.tup [W "plus", .tup ts]) = ts := by simp [inn, s_plus_call, s_plus_weigh, s_plus_read, s_plus_put, s_plus_number, s_plus_unknown, s_call_plus, s_call_weigh, s_call_read, s_call_put, s_call_number, s_call_unknown, s_weigh_plus, s_weigh_call, s_weigh_read, s_weigh_put, s_weigh_number, s_weigh_unknown, s_read_plus, s_read_call, s_read_weigh, s_read_put, s_read_number, s_read_unknown, s_put_plus, s_put_call, s_put_weigh, s_put_read, s_put_number, s_put_unknown, s_number_plus, s_number_call, s_number_weigh, s_number_read, s_number_put, s_number_unknown, s_unknown_plus, s_unknown_call, s_unknown_weigh, s_unknown_read, s_unknown_put, s_unknown_number]
theorem inn_call {f : Str} {ts : List D} : inn (.tup [W "call", .str f, .tup ts]) = ts := by simp [inn, s_plus_call, s_plus_weigh, s_plus_read, s_plus_put, s_plus_number, s_plus_unknown, s_call_plus, s_call_weigh, s_call_read, s_call_put, s_call_number, s_call_unknown, s_weigh_plus, s_weigh_call, s_weigh_read, s_weigh_put, s_weigh_number, s_weigh_unknown, s_read_plus, s_read_call, s_read_weigh, s_read_put, s_read_number, s_read_unknown, s_put_plus, s_put_call, s_put_weigh, s_put_read, s_put_number, s_put_unknown, s_number_plus, s_number_call, s_number_weigh, s_number_read, s_number_put, s_number_unknown, s_unknown_plus, s_unknown_call, s_unknown_weigh, s_unknown_read, s_unknown_put, s_unknown_number]
theorem inn_read {a p : D} : inn (.tup [W "read", a, p]) = [a, p] := by simp [inn, s_plus_call, s_plus_weigh, s_plus_read, s_plus_put, s_plus_number, s_plus_unknown, s_call_plus, s_call_weigh, s_call_read, s_call_put, s_call_number, s_call_unknown, s_weigh_plus, s_weigh_call, s_weigh_read, s_weigh_put, s_weigh_number, s_weigh_unknown, s_read_plus, s_read_call, s_read_weigh, s_read_put, s_read_number, s_read_unknown, s_put_plus, s_put_call, s_put_weigh, s_put_read, s_put_number, s_put_unknown, s_number_plus, s_number_call, s_number_weigh, s_number_read, s_number_put, s_number_unknown, s_unknown_plus, s_unknown_call, s_unknown_weigh, s_unknown_read, s_unknown_put, s_unknown_number]
theorem inn_put {a p l : D} : inn (.tup [W "put", a, p, l]) = [a, p, l] := by simp [inn, s_plus_call, s_plus_weigh, s_plus_read, s_plus_put, s_plus_number, s_plus_unknown, s_call_plus, s_call_weigh, s_call_read, s_call_put, s_call_number, s_call_unknown, s_weigh_plus, s_weigh_call, s_weigh_read, s_weigh_put, s_weigh_number, s_weigh_unknown, s_read_plus, s_read_call, s_read_weigh, s_read_put, s_read_number, s_read_unknown, s_put_plus, s_put_call, s_put_weigh, s_put_read, s_put_number, s_put_unknown, s_number_plus, s_number_call, s_number_weigh, s_number_read, s_number_put, s_number_unknown, s_unknown_plus, s_unknown_call, s_unknown_weigh, s_unknown_read, s_unknown_put, s_unknown_number]
theorem Tm.ok : ∀ {n : Nat} {d : D}, Tm n d → okN (2 * n) d = true
 | 0, _, h => h.elim
 | n + 1, d, ⟨h1, h2⟩ => by
  have ih : ∀ t ∈ inn d, okN (2 * n) t = true := fun t ht => Tm.ok (h2 t ht)
  have up : ∀ {t : D}, okN (2 * n) t = true → okN (2 * n + 1) t = true := fun h => okN_mono (by omega) h
  rw [show 2 * (n + 1) = 2 * n + 1 + 1 by omega]
  cases h1 with
  | unk x hx => simp [okN, hx, lay_plus, lay_call, lay_weigh, lay_read, lay_put, lay_number, lay_unknown]
  | num i j => simp [okN, lay_plus, lay_call, lay_weigh, lay_read, lay_put, lay_number, lay_unknown]
  | wei i j t => rw [inn_wei] at ih; simp [okN, lay_plus, lay_call, lay_weigh, lay_read, lay_put, lay_number, lay_unknown, up (ih t (by simp))]
  | plus ts h => rw [inn_plus] at ih; simp only [okN, List.all_cons, lay_plus, lay_call, lay_weigh, lay_read, lay_put, lay_number, lay_unknown, List.all_nil, Bool.and_true, Bool.true_and, List.all_eq_true]; exact ih
  | call f hf ts h => rw [inn_call] at ih; simp only [okN, List.all_cons, lay_plus, lay_call, lay_weigh, lay_read, lay_put, lay_number, lay_unknown, hf, List.all_nil, Bool.and_true, Bool.true_and, List.all_eq_true]; exact ih
  | read a p => rw [inn_read] at ih; simp [okN, lay_plus, lay_call, lay_weigh, lay_read, lay_put, lay_number, lay_unknown, up (ih a (by simp)), up (ih p (by simp))]
  | put a p l => rw [inn_put] at ih; simp [okN, lay_plus, lay_call, lay_weigh, lay_read, lay_put, lay_number, lay_unknown, up (ih a (by simp)), up (ih p (by simp)), up (ih l (by simp))]
theorem Tm.ok40 {n : Nat} {d : D} (h : Tm n d) (hn : n ≤ 15) : okN 40 d = true := okN_mono (by omega) h.ok
theorem inn_le {d : D} (h : Shape d) : (inn d).length ≤ 3 := by
 cases h <;> simp [inn, s_plus_call, s_plus_weigh, s_plus_read, s_plus_put, s_plus_number, s_plus_unknown, s_call_plus, s_call_weigh, s_call_read, s_call_put, s_call_number, s_call_unknown, s_weigh_plus, s_weigh_call, s_weigh_read, s_weigh_put, s_weigh_number, s_weigh_unknown, s_read_plus, s_read_call, s_read_weigh, s_read_put, s_read_number, s_read_unknown, s_put_plus, s_put_call, s_put_weigh, s_put_read, s_put_number, s_put_unknown, s_number_plus, s_number_call, s_number_weigh, s_number_read, s_number_put, s_number_unknown, s_unknown_plus, s_unknown_call, s_unknown_weigh, s_unknown_read, s_unknown_put, s_unknown_number] <;> assumption
theorem shape_inj {d e : D} (hd : Shape d) (he : Shape e) (hl : lab d = lab e) (hi : inn d = inn e) : d = e := by
 cases hd <;> cases he <;> simp [lab, inn, s_plus_call, s_plus_weigh, s_plus_read, s_plus_put, s_plus_number, s_plus_unknown, s_call_plus, s_call_weigh, s_call_read, s_call_put, s_call_number, s_call_unknown, s_weigh_plus, s_weigh_call, s_weigh_read, s_weigh_put, s_weigh_number, s_weigh_unknown, s_read_plus, s_read_call, s_read_weigh, s_read_put, s_read_number, s_read_unknown, s_put_plus, s_put_call, s_put_weigh, s_put_read, s_put_number, s_put_unknown, s_number_plus, s_number_call, s_number_weigh, s_number_read, s_number_put, s_number_unknown, s_unknown_plus, s_unknown_call, s_unknown_weigh, s_unknown_read, s_unknown_put, s_unknown_number] at hl hi ⊢ <;> simp_all
theorem lab_ok {d : D} (h : Shape d) : okN 3 (lab d) = true := by
 cases h <;> simp_all [lab, okN, lay_plus, lay_call, lay_weigh, lay_read, lay_put, lay_number, lay_unknown, s_plus_call, s_plus_weigh, s_plus_read, s_plus_put, s_plus_number, s_plus_unknown, s_call_plus, s_call_weigh, s_call_read, s_call_put, s_call_number, s_call_unknown, s_weigh_plus, s_weigh_call, s_weigh_read, s_weigh_put, s_weigh_number, s_weigh_unknown, s_read_plus, s_read_call, s_read_weigh, s_read_put, s_read_number, s_read_unknown, s_put_plus, s_put_call, s_put_weigh, s_put_read, s_put_number, s_put_unknown, s_number_plus, s_number_call, s_number_weigh, s_number_read, s_number_put, s_number_unknown, s_unknown_plus, s_unknown_call, s_unknown_weigh, s_unknown_read, s_unknown_put, s_unknown_number]
noncomputable def insN (ts : List D) (d : D) : List D := if d ∈ ts then ts else ts ++ [d]
noncomputable def grow : Nat → List D → D → List D
 | 0, ts, _ => ts
 | n + 1, ts, d => insN ((inn d).foldl (grow n) ts) d
noncomputable def keyOf (ts : List D) (t : D) : D := .tup [lab t, .tup ((inn t).map fun x => .int (ts.idxOf x))]
noncomputable def kvs (ts : List D) : List (D × D) := ts.zipIdx.map fun p => (keyOf ts p.1, .int p.2)
structure Good (ts : List D) : Prop where
 nd : ts.Nodup
 sh : ∀ t ∈ ts, Shape t
 cl : ∀ (i : Nat) (t : D), ts[i]? = some t → ∀ x ∈ inn t, x ∈ ts.take i
theorem Good.sub {ts : List D} (h : Good ts) : ∀ t ∈ ts, ∀ x ∈ inn t, x ∈ ts := fun t ht x hx => by
 obtain ⟨i, hi⟩ := List.getElem?_of_mem ht
 exact List.mem_of_mem_take (h.cl i t hi x hx)
theorem Good.nil : Good [] := ⟨by simp, by simp, by simp⟩
theorem Good.ins {ts : List D} {d : D} (h : Good ts) (hd : Shape d) (hi : ∀ x ∈ inn d, x ∈ ts) : Good (insN ts d) := by
 unfold insN
 split
 · exact h
 · rename_i hn
   refine ⟨?_, ?_, ?_⟩
   · rw [List.nodup_append]
     refine ⟨h.nd, by simp, fun a ha b hb e => ?_⟩
     simp only [List.mem_singleton] at hb
     exact hn (hb ▸ e ▸ ha)
   · intro t ht
     rcases List.mem_append.mp ht with z | z
     · exact h.sh t z
     · simp only [List.mem_singleton] at z; exact z ▸ hd
   · intro i t ht x hx
     by_cases hlt : i < ts.length
     · rw [List.getElem?_append_left hlt] at ht
       rw [List.take_append_of_le_length (Nat.le_of_lt hlt)]
       exact h.cl i t ht x hx
     · rw [List.getElem?_append_right (by omega)] at ht
       have : i = ts.length := by
        rw [List.getElem?_singleton] at ht
        split at ht
        · omega
        · cases ht
       subst this
       simp only [Nat.sub_self, List.getElem?_cons_zero, Option.some.injEq] at ht
       subst ht
       rw [List.take_append_of_le_length (Nat.le_refl _), List.take_length]
       exact hi x hx
theorem insN_mem {ts : List D} {d x : D} : x ∈ insN ts d ↔ x ∈ ts ∨ x = d := by
 unfold insN
 split
 · constructor
   · exact Or.inl
   · rintro (h | rfl)
     · exact h
     · assumption
 · simp
theorem insN_pre (ts : List D) (d : D) : ts <+: insN ts d := by
 unfold insN
 split
 · exact List.prefix_refl _
 · exact List.prefix_append _ _
theorem fold_pre {f : List D → D → List D} (hf : ∀ ts d, ts <+: f ts d) : ∀ (l ts : List D), ts <+: l.foldl f ts
 | [], ts => List.prefix_refl _
 | d :: r, ts => List.IsPrefix.trans (hf ts d) (fold_pre hf r (f ts d))
theorem grow_pre : ∀ (n : Nat) (ts : List D) (d : D), ts <+: grow n ts d
 | 0, ts, d => List.prefix_refl _
 | n + 1, ts, d => List.IsPrefix.trans (fold_pre (grow_pre n) _ _) (insN_pre _ _)
theorem grow_self {n : Nat} {ts : List D} {d : D} : d ∈ grow (n + 1) ts d := by
 simp only [grow]; exact insN_mem.mpr (.inr rfl)
theorem fold_has {n : Nat} : ∀ (l ts : List D), (∀ x ∈ l, Tm n x) → ∀ x ∈ l, x ∈ l.foldl (grow n) ts
 | d :: r, ts, h, x, hx => by
  rcases List.mem_cons.mp hx with rfl | z
  · have hd : x ∈ grow n ts x := by
     cases n with
     | zero => exact (h x (by simp)).elim
     | succ n => exact grow_self
    exact (fold_pre (grow_pre n) r (grow n ts x)).subset hd
  · exact fold_has r _ (fun y hy => h y (List.mem_cons_of_mem _ hy)) x z
theorem fold_good {n : Nat} (hg : ∀ ts d, Good ts → Tm n d → Good (grow n ts d)) : ∀ (l ts : List D), Good ts → (∀ x ∈ l, Tm n x) → Good (l.foldl (grow n) ts)
 | [], ts, h, _ => h
 | d :: r, ts, h, hx => fold_good hg r _ (hg ts d h (hx d (by simp))) fun y hy => hx y (List.mem_cons_of_mem _ hy)
theorem grow_good : ∀ (n : Nat) (ts : List D) (d : D), Good ts → Tm n d → Good (grow n ts d)
 | 0, ts, d, h, ht => ht.elim
 | n + 1, ts, d, h, ht => by
  simp only [grow]
  exact Good.ins (fold_good (grow_good n) _ _ h ht.2) ht.1 (fold_has _ _ ht.2)
noncomputable def B : Nat → Nat
 | 0 => 0
 | n + 1 => 1 + 3 * B n
theorem fold_len {n : Nat} (hg : ∀ ts d, Tm n d → (grow n ts d).length ≤ ts.length + B n) : ∀ (l ts : List D), (∀ x ∈ l, Tm n x) → (l.foldl (grow n) ts).length ≤ ts.length + l.length * B n
 | [], ts, _ => by simp
 | d :: r, ts, h => by
  have h1 := hg ts d (h d (by simp))
  have h2 := fold_len hg r (grow n ts d) fun y hy => h y (List.mem_cons_of_mem _ hy)
  simp only [List.foldl_cons, List.length_cons, Nat.add_mul, Nat.one_mul]
  omega
theorem insN_len (ts : List D) (d : D) : (insN ts d).length ≤ ts.length + 1 := by
 unfold insN; split <;> simp
theorem grow_len : ∀ (n : Nat) (ts : List D) (d : D), Tm n d → (grow n ts d).length ≤ ts.length + B n
 | 0, ts, d, h => h.elim
 | n + 1, ts, d, h => by
  have h1 := fold_len (grow_len n) (inn d) ts h.2
  have h2 := insN_len ((inn d).foldl (grow n) ts) d
  have h3 := inn_le h.1
  have h4 : (inn d).length * B n ≤ 3 * B n := Nat.mul_le_mul_right _ h3
  simp only [grow, B]
  omega
theorem idx_pre {ts us : List D} (h : ts <+: us) {x : D} (hx : x ∈ ts) : us.idxOf x = ts.idxOf x := by
 obtain ⟨m, rfl⟩ := h
 rw [List.idxOf_append, if_pos hx]
theorem key_pre {ts us : List D} (h : ts <+: us) {t : D} (hi : ∀ x ∈ inn t, x ∈ ts) : keyOf us t = keyOf ts t := by
 unfold keyOf
 congr 3
 congr 1
 exact List.map_congr_left fun x hx => by rw [idx_pre h (hi x hx)]
theorem kvs_app {ts : List D} {d : D} (h : Good ts) (hi : ∀ x ∈ inn d, x ∈ ts) : kvs (ts ++ [d]) = kvs ts ++ [(keyOf ts d, .int ts.length)] := by
 have hp : ts <+: ts ++ [d] := List.prefix_append _ _
 unfold kvs
 rw [List.zipIdx_append, List.map_append]
 congr 1
 · refine List.map_congr_left fun p hp2 => ?_
   have : p.1 ∈ ts := by
    obtain ⟨a, b⟩ := p
    have := List.mem_zipIdx hp2
    have h3 := this.2.2
    simp only [Nat.sub_zero] at h3
    rw [h3]; exact List.getElem_mem _
   rw [key_pre hp (h.sub _ this)]
 · simp [key_pre hp hi]
theorem find_zip (f : D → D) (d : D) : ∀ (l : List D) (k : Nat), (∀ t ∈ l, f t = f d ↔ t = d) → dLook ((l.zipIdx k).map fun p => (f p.1, D.int p.2)) (f d) = if d ∈ l then some (.int ((k + l.idxOf d : Nat) : Int)) else none
 | [], k, _ => by simp [dLook]
 | t :: r, k, h => by
  have ih := find_zip f d r (k + 1) fun x hx => h x (List.mem_cons_of_mem _ hx)
  have h1 := h t (by simp)
  by_cases e : t = d
  · subst e
    simp [dLook, List.zipIdx_cons]
  · have e2 : ¬ f t = f d := fun z => e (h1.mp z)
    have e3 : ¬ d = t := fun z => e z.symm
    have ib : ((t == d) = false) := by simpa using e
    unfold dLook at ih ⊢
    simp only [List.zipIdx_cons, List.map_cons]
    rw [List.find?_cons_of_neg (by simpa using e2)]
    rw [ih]
    simp only [List.mem_cons, e3, false_or, List.idxOf_cons, ib, cond_false]
    split
    · rw [show k + 1 + r.idxOf d = k + (r.idxOf d + 1) by omega]
    · rfl
theorem idx_inj {ts : List D} {x y : D} (hx : x ∈ ts) (h : ts.idxOf x = ts.idxOf y) : x = y := by
 have h1 := List.idxOf_lt_length_of_mem hx
 have e1 : ts[ts.idxOf x] = x := List.getElem_idxOf h1
 have h2 : ts.idxOf y < ts.length := h ▸ h1
 have e2 : ts[ts.idxOf y] = y := List.getElem_idxOf h2
 rw [← e1, ← e2]
 congr 1
theorem maps_inj {ts : List D} : ∀ {a b : List D}, (∀ x ∈ a, x ∈ ts) → (a.map fun x => D.int ((ts.idxOf x : Nat) : Int)) = b.map (fun x => D.int ((ts.idxOf x : Nat) : Int)) → a = b
 | [], [], _, _ => rfl
 | [], _ :: _, _, h => by simp at h
 | _ :: _, [], _, h => by simp at h
 | x :: r, y :: t, ha, h => by
  simp only [List.map_cons, List.cons.injEq, D.int.injEq, Int.natCast_inj] at h
  rw [idx_inj (ha x (by simp)) h.1, maps_inj (fun z hz => ha z (List.mem_cons_of_mem _ hz)) h.2]
theorem look_key {ts : List D} {d : D} (h : Good ts) (hd : Shape d) : dLook (kvs ts) (keyOf ts d) = if d ∈ ts then some (.int (ts.idxOf d : Nat)) else none := by
 have := find_zip (keyOf ts) d ts 0 fun t ht => by
  constructor
  · intro e
    unfold keyOf at e
    simp only [D.tup.injEq, List.cons.injEq, and_true] at e
    exact shape_inj (h.sh t ht) hd e.1 (maps_inj (h.sub t ht) e.2)
  · intro e; rw [e]
 rw [Nat.zero_add] at this
 exact this
theorem put_new {l : List (D × D)} {k v : D} (h : dLook l k = none) : dPut l k v = l ++ [(k, v)] := by
 unfold dPut
 rw [if_neg]
 intro z
 rw [List.any_eq_true] at z
 obtain ⟨p, hp, e⟩ := z
 unfold dLook at h
 simp only [Option.map_eq_none_iff, List.find?_eq_none] at h
 exact h p hp e
theorem key_ok {ts : List D} {d : D} (hd : Shape d) : keyN (keyOf ts d) = true := by
 unfold keyOf keyN
 simp only [okN, List.all_cons, List.all_nil, Bool.and_true, Bool.and_eq_true]
 refine ⟨okN_mono (by decide) (lab_ok hd), ?_⟩
 simp [okN]
theorem kvs_len (ts : List D) : (kvs ts).length = ts.length := by simp [kvs]
section
variable {FF n k m s a b : Nat} {st : Sto}
noncomputable def fsN (a b : Nat) : List (Str × D) := [(Str.ofString "terms", D.loc a), (Str.ofString "numbers", D.loc b)]
theorem n_tn : (Str.ofString "numbers" == Str.ofString "terms") = false := by decide +kernel
theorem n_mt : (Str.ofString "number" == Str.ofString "terms") = false := by decide +kernel
theorem n_mn : (Str.ofString "number" == Str.ofString "numbers") = false := by decide +kernel
theorem fsN_t : (fsN a b).lookup (Str.ofString "terms") = some (.loc a) := by simp [fsN]
theorem fsN_n : (fsN a b).lookup (Str.ofString "numbers") = some (.loc b) := by simp [fsN, List.lookup, n_tn]
theorem fsN_m : (fsN a b).lookup (Str.ofString "number") = none := by simp [fsN, List.lookup, n_mt, n_mn]
structure Nb (st : Sto) (s a b : Nat) (ts : List D) : Prop where
 i : st[s]? = some (.ins 0 (fsN a b))
 t : st[a]? = some (.lst ts)
 d : st[b]? = some (.dcn (kvs ts))
theorem Nb.sa {st : Sto} {ts : List D} (h : Nb st s a b ts) : s ≠ a := fun e => by have := h.i; rw [e, h.t] at this; cases this
theorem Nb.sb {st : Sto} {ts : List D} (h : Nb st s a b ts) : s ≠ b := fun e => by have := h.i; rw [e, h.d] at this; cases this
theorem Nb.ab {st : Sto} {ts : List D} (h : Nb st s a b ts) : a ≠ b := fun e => by have := h.t; rw [e, h.d] at this; cases this
def FrX (L : Nat) (a b : Nat) (st st' : Sto) : Prop := st.length ≤ st'.length ∧ ∀ j, j < L → j ≠ a → j ≠ b → st'[j]? = st[j]?
theorem FrX.refl {L : Nat} (st : Sto) : FrX L a b st st := ⟨Nat.le_refl _, fun _ _ _ _ => rfl⟩
theorem FrX.trans {L : Nat} {s1 s2 s3 : Sto} (h : FrX L a b s1 s2) (k : FrX L a b s2 s3) : FrX L a b s1 s3 := ⟨Nat.le_trans h.1 k.1, fun j h1 h2 h3 => (k.2 j h1 h2 h3).trans (h.2 j h1 h2 h3)⟩
theorem FrX.down {L L' : Nat} {s1 s2 : Sto} (h : FrX L a b s1 s2) (hl : L' ≤ L) : FrX L' a b s1 s2 := ⟨h.1, fun j h1 => h.2 j (Nat.lt_of_lt_of_le h1 hl)⟩
def NumOk (FF k m s a b : Nat) : Prop := ∀ (d : D), Tm m d → ∀ (st : Sto) (ts : List D), Nb st s a b ts → Good ts → ts.length + B m ≤ 16000000 →
 ∃ st', C FF k 3 [.loc s, d] st = .ok (.int ((grow m ts d).idxOf d : Nat)) st' ∧ Nb st' s a b (grow m ts d) ∧ FrX st.length a b st st'
theorem num_loop (ih : NumOk FF k m s a b) {all : List D} {n0 : Nat} {body : D → Sto → Res (Option D)} (hb : ∀ d st, st[s]? = some (.ins 0 (fsN a b)) → body d st = (C FF k 3 [.loc s, d] st).bind fun y st => .ok (some y) st) {L : Nat} (hL : L ≤ n0) :
    ∀ (xs : List D), (∀ x ∈ xs, Tm m x) → ∀ (ts ys : List D) (st : Sto), Nb st s a b ts → Good ts → st[n0]? = some (.lst ys) → n0 ≠ a → n0 ≠ b → ts.length + xs.length * B m ≤ 16000000 → ys.length + xs.length ≤ 16000000 →
    ∃ st', compLoop all none n0 body xs st = .ok () st' ∧ Nb st' s a b (xs.foldl (grow m) ts) ∧ st'[n0]? = some (.lst (ys ++ xs.map fun x => .int ((xs.foldl (grow m) ts).idxOf x : Nat))) ∧ FrX L a b st st'
  | [], _, ts, ys, st, N, G, hn, _, _, _, _ => ⟨st, by simp [compLoop, stays], N, by simpa using hn, .refl _⟩
  | x :: r, hx, ts, ys, st, N, G, hn, na, nb, h1, h2 => by
    simp only [List.length_cons, Nat.add_mul, Nat.one_mul] at h1 h2
    have hy : ys.length < sizeLine := Nat.lt_of_lt_of_le (by omega : ys.length < 16000000) (by decide)
    obtain ⟨s1, e1, N1, F1⟩ := ih x (hx x (by simp)) st ts N G (by omega)
    have hlt : n0 < st.length := (List.getElem?_eq_some_iff.mp hn).1
    have hn1 : s1[n0]? = some (.lst ys) := by rw [F1.2 n0 hlt na nb]; exact hn
    have ns : n0 ≠ s := fun e => by have := N.i; rw [← e, hn] at this; cases this
    have N2 : Nb (s1.set n0 (.lst (ys ++ [.int ((grow m ts x).idxOf x : Nat)]))) s a b (grow m ts x) := ⟨by rw [List.getElem?_set_ne ns]; exact N1.i, by rw [List.getElem?_set_ne na]; exact N1.t, by rw [List.getElem?_set_ne nb]; exact N1.d⟩
    have G1 := grow_good m ts x G (hx x (by simp))
    have hl := grow_len m ts x (hx x (by simp))
    obtain ⟨s2, e2, N3, hn3, F2⟩ := num_loop ih hb hL r (fun y hy => hx y (List.mem_cons_of_mem _ hy)) (grow m ts x) (ys ++ [.int ((grow m ts x).idxOf x : Nat)]) _ N2 G1 (set_at hn1 _) na nb (by omega) (by simp; omega)
    refine ⟨s2, ?_, N3, ?_, ?_⟩
    · simp only [compLoop, stays, if_true, hb x st N.i, e1, bind_ok, hn1, hy]
      exact e2
    · rw [hn3]
      have hm : x ∈ grow m ts x := by
        cases m with
        | zero => exact (hx x (by simp)).elim
        | succ m => exact grow_self
      simp only [List.foldl_cons, List.map_cons, List.append_assoc, List.singleton_append, idx_pre (fold_pre (grow_pre m) r (grow m ts x)) hm]
    · refine FrX.trans (FrX.trans (F1.down (Nat.le_of_lt (Nat.lt_of_le_of_lt hL hlt))) ⟨by simp, fun j hj _ _ => ?_⟩) F2
      rw [List.getElem?_set_ne (by omega)]
theorem number_step (ih : ∀ m', m = m' + 1 → NumOk FF (k + 1) m' s a b) : NumOk FF (k + 2) m s a b := by
 intro d hd st ts N G hl
 cases m with
 | zero => exact hd.elim
 | succ m =>
  have ih := ih m rfl
  rw [call_at (fn := ⟨2, 3, c_Numbering_9number⟩) rfl rfl (by decide)]
  have hB : B (m + 1) = 1 + 3 * B m := rfl
  have h3 := inn_le hd.1
  have h4 : (inn d).length * B m ≤ 3 * B m := Nat.mul_le_mul_right _ h3
  have hs2 := szl 2 (by decide)
  have la : a < st.length := (List.getElem?_eq_some_iff.mp N.t).1
  have lb : b < st.length := (List.getElem?_eq_some_iff.mp N.d).1
  have ls : s < st.length := (List.getElem?_eq_some_iff.mp N.i).1
  have N0 : Nb (st ++ [.lst []]) s a b ts := ⟨by rw [List.getElem?_append_left ls]; exact N.i, by rw [List.getElem?_append_left la]; exact N.t, by rw [List.getElem?_append_left lb]; exact N.d⟩
  obtain ⟨s1, e1, N1, hn1, F1⟩ := num_loop (all := inn d) (n0 := st.length) (body := turnC tab (C FF (k + 1)) [0] true [none, some (D.loc s)] .nil (.meth 0 3 (Str.ofString "number") (.var 1) (.cons (.var 0) .nil))) ih (fun d st h => by simp [turnC, store, setAll, evalIfs, evalE, evalEs, getV, h, fsN_m]) (Nat.le_refl _) (inn d) hd.2 ts [] _ N0 G (by simp) (by omega) (by omega) (by omega) (by simp; omega)
  have hG := fold_good (grow_good m) (inn d) ts G hd.2
  have hI := fold_has (inn d) ts hd.2
  have hT := fold_len (grow_len m) (inn d) ts hd.2
  have hgr : grow (m + 1) ts d = insN ((inn d).foldl (grow m) ts) d := rfl
  rw [hgr]
  generalize hTT : (inn d).foldl (grow m) ts = T at *
  have hc1 : ∀ z : List (D × D), (kvs T).length < sizeLine := fun _ => by rw [kvs_len]; exact Nat.lt_of_lt_of_le (by omega : T.length < 16000000) (by decide)
  have hc1 := hc1 []
  have hc2 : T.length < sizeLine := by rw [← kvs_len]; exact hc1
  have ev1 : evalE tab (C FF (k + 1)) (.comp 1 true 1 [0] [0] (.call 0 (.cons (.var 1) .nil) []) .nil (.meth 0 3 (Str.ofString "number") (.var 1) (.cons (.var 0) .nil))) [some (.loc s), some d, none] st = .ok (.loc st.length) s1 := by
   have ei : evalE tab (C FF (k + 1)) (.call 0 (.cons (.var 1) .nil) []) [some (.loc s), some d, none] st = .ok (.tup (inn d)) st := by
    simp [evalE, evalEs, getV, terms_in hd.1]
   rw [e_compAt ei rfl]
   have en : envIn 1 [0] [some (.loc s), some d, none] = [none, some (D.loc s)] := rfl
   rw [en, e1]
   rfl
  have ls1 : lstOf s1 st.length = some ((inn d).map fun x => .int (T.idxOf x : Nat)) := by rw [lst_at hn1]; rfl
  have ev2 : evalE tab (C FF (k + 1)) (.tupE (.cons (.call 1 (.cons (.var 1) .nil) []) (.cons (.bt .tupleB (.cons (.comp 1 true 1 [0] [0] (.call 0 (.cons (.var 1) .nil) []) .nil (.meth 0 3 (Str.ofString "number") (.var 1) (.cons (.var 0) .nil))) .nil)) .nil))) [some (.loc s), some d, none] st = .ok (keyOf T d) s1 := by
   rw [evalE, evalEs]
   have e3 : evalE tab (C FF (k + 1)) (.call 1 (.cons (.var 1) .nil) []) [some (.loc s), some d, none] st = .ok (lab d) st := by
    simp [evalE, evalEs, getV, label_of hd.1]
   rw [e3]
   simp only [bind_ok, evalEs]
   rw [evalE]
   simp only [evalEs, ev1, bind_ok, btD, seqOf, ls1, List.length_cons, List.length_nil, keyOf]
   rw [if_pos hs2]
  have dn : dctOf s1 b = none := by simp only [dctOf, N1.d]
  have dd : dcnOf s1 b = some (kvs T) := by simp only [dcnOf, N1.d]
  have kk := key_ok (ts := T) hd.1
  have lk := look_key hG hd.1
  have l1a : a < s1.length := (List.getElem?_eq_some_iff.mp N1.t).1
  have l1b : b < s1.length := (List.getElem?_eq_some_iff.mp N1.d).1
  have l1s : s < s1.length := (List.getElem?_eq_some_iff.mp N1.i).1
  by_cases hm : d ∈ T
  · rw [if_pos hm] at lk
    have hins : insN T d = T := by unfold insN; rw [if_pos hm]
    rw [hins]
    refine ⟨s1, ?_, N1, ?_⟩
    · simp only [c_Numbering_9number, x_cons, x_nil, x_set, x_ret, x_if, List.map_cons, List.map_nil, List.replicate, List.cons_append, List.nil_append, Nat.reduceSub]
      rw [ev2]
      simp [fin, evalT, evalE, getV, N1.i, fsN_n, cmD, inD, dn, dd, kk, lk, x_nil, ixD]
    · exact FrX.trans ⟨by simp, fun j hj _ _ => List.getElem?_append_left hj⟩ F1
  · rw [if_neg hm] at lk
    have hins : insN T d = T ++ [d] := by unfold insN; rw [if_neg hm]
    rw [hins]
    have hput := put_new (v := D.int (T.length : Nat)) lk
    refine ⟨(s1.set b (.dcn (kvs T ++ [(keyOf T d, .int (T.length : Nat))]))).set a (.lst (T ++ [d])), ?_, ?_, ?_⟩
    · have lkp : dLook (kvs T ++ [(keyOf T d, .int (T.length : Nat))]) (keyOf T d) = some (.int (T.length : Nat)) := by
       unfold dLook at lk ⊢
       rw [List.find?_append]
       simp only [Option.map_eq_none_iff] at lk
       simp [lk]
      have q1 : (s1.set b (.dcn (kvs T ++ [(keyOf T d, .int (T.length : Nat))])))[s]? = some (.ins 0 (fsN a b)) := by rw [List.getElem?_set_ne (Ne.symm N.sb)]; exact N1.i
      have q2 : (s1.set b (.dcn (kvs T ++ [(keyOf T d, .int (T.length : Nat))])))[a]? = some (.lst T) := by rw [List.getElem?_set_ne (Ne.symm N.ab)]; exact N1.t
      have q3 : ((s1.set b (.dcn (kvs T ++ [(keyOf T d, .int (T.length : Nat))]))).set a (.lst (T ++ [d])))[s]? = some (.ins 0 (fsN a b)) := by rw [List.getElem?_set_ne (Ne.symm N.sa)]; exact q1
      have q4 : ((s1.set b (.dcn (kvs T ++ [(keyOf T d, .int (T.length : Nat))]))).set a (.lst (T ++ [d])))[b]? = some (.dcn (kvs T ++ [(keyOf T d, .int (T.length : Nat))])) := by rw [List.getElem?_set_ne N.ab]; simp [l1b]
      have dn4 : dctOf ((s1.set b (.dcn (kvs T ++ [(keyOf T d, .int (T.length : Nat))]))).set a (.lst (T ++ [d]))) b = none := by simp only [dctOf, q4]
      have dd4 : dcnOf ((s1.set b (.dcn (kvs T ++ [(keyOf T d, .int (T.length : Nat))]))).set a (.lst (T ++ [d]))) b = some (kvs T ++ [(keyOf T d, .int (T.length : Nat))]) := by simp only [dcnOf, q4]
      have ix : (T ++ [d]).idxOf d = T.length := by rw [List.idxOf_append, if_neg hm]; simp
      rw [ix]
      simp only [c_Numbering_9number, x_cons, x_nil, x_set, x_ret, x_if, List.map_cons, List.map_nil, List.replicate, List.cons_append, List.nil_append, Nat.reduceSub]
      rw [ev2]
      generalize hs3 : (s1.set b (.dcn (kvs T ++ [(keyOf T d, .int (T.length : Nat))]))) = s3 at *
      simp [fin, evalT, evalE, evalEs, getV, N1.i, fsN_n, fsN_t, cmD, inD, dn, dd, kk, lk, x_nil, x_cons, x_ex, ixD, execS, b_lenL (lst_at N1.t), hc1, hput, hs3, q1, q2, q3, q4, rdy, isLst, mtD, hc2, dn4, dd4, lkp]
    · refine ⟨?_, ?_, ?_⟩
      · rw [List.getElem?_set_ne (Ne.symm N.sa), List.getElem?_set_ne (Ne.symm N.sb)]; exact N1.i
      · simp [l1a]
      · rw [List.getElem?_set_ne N.ab, kvs_app hG hI]; simp [l1b]
    · refine FrX.trans ⟨by simp, fun j hj _ _ => List.getElem?_append_left hj⟩ (FrX.trans F1 ⟨by simp, fun j hj h1 h2 => ?_⟩)
      rw [List.getElem?_set_ne (Ne.symm h1), List.getElem?_set_ne (Ne.symm h2)]
theorem number_ok : ∀ (m k : Nat), NumOk FF (m + 1 + k) m s a b
 | 0, k => fun d hd => hd.elim
 | m + 1, k => by
  rw [show m + 1 + 1 + k = (m + k) + 2 by omega]
  refine number_step fun m' e => ?_
  cases e
  rw [show m + k + 1 = m + 1 + k by omega]
  exact number_ok m k
end
section
variable {FF n k m : Nat} {st : Sto}
theorem ge0 {c : Cell} {r : Sto} : (st ++ c :: r)[st.length]? = some c := by simp
theorem ge1 {c d : Cell} {r : Sto} : (st ++ c :: d :: r)[st.length + 1]? = some d := by simp
theorem ge2 {c d e : Cell} {r : Sto} : (st ++ c :: d :: e :: r)[st.length + 2]? = some e := by simp
theorem init_ok : C FF (n + 1) 2 [.loc st.length] (st ++ [.ins 0 []]) = .ok .non (st ++ [.ins 0 (fsN (st.length + 1) (st.length + 2)), .lst [], .dcn []]) := by
 rw [call_at (fn := ⟨1, 1, c_Numbering_9__init__⟩) rfl rfl (by decide)]
 have hs0 := szl 0 (by decide)
 have hne : ¬ Str.ofString "terms" = Str.ofString "numbers" := by decide +kernel
 simp [c_Numbering_9__init__, x_cons, x_nil, execS, evalE, evalEs, fin, getV, hs0, putFD, fsN, hne]
end
section
variable {FF n k m : Nat} {st : Sto}
noncomputable def encN (l : NLk) : D := .tup [.int l.1, .int (l.2.1 : Nat), .int (l.2.2 : Nat)]
noncomputable def encW (x : Int × Nat) : D := .tup [.int x.1, .int (x.2 : Nat)]
theorem dLook_app {l : List (D × D)} {k v k' : D} : dLook (l ++ [(k, v)]) k' = match dLook l k' with | some d => some d | none => if k = k' then some v else none := by
 unfold dLook
 rw [List.find?_append]
 cases l.find? (fun p => decide (p.1 = k')) with
 | some x => rfl
 | none =>
  by_cases h : k = k'
  · simp [h]
  · simp [h]
theorem put_new' {l : List (D × D)} {k v : D} (h : dLook l k = none) : dPut l k v = l ++ [(k, v)] := put_new h
structure WO (base : Nat) (st : Sto) (w : Nat) (W : Nat → List (Int × Nat)) (z : Nat) : Prop where
 dct : ∃ kvs, st[w]? = some (.dct kvs) ∧ kvs.length ≤ z ∧ (∀ n : Nat, match dLook kvs (.int (n : Nat)) with | some d => ∃ c, d = .loc c ∧ base ≤ c ∧ c ≠ w ∧ st[c]? = some (.lst ((W n).map encW)) | none => W n = []) ∧
  ∀ (n n' c : Nat), dLook kvs (.int (n : Nat)) = some (.loc c) → dLook kvs (.int (n' : Nat)) = some (.loc c) → n = n'
theorem WO.mono {base w z : Nat} {W : Nat → List (Int × Nat)} {s s' : Sto} (h : WO base s w W z) (F : Fr s s') : WO base s' w W z := by
 obtain ⟨kvs, h1, h2, h3, h4⟩ := h.dct
 refine ⟨kvs, F.at h1, h2, fun n => ?_, h4⟩
 have := h3 n
 split at this
 · obtain ⟨c, q1, q2, q3, q4⟩ := this
   exact ⟨c, q1, q2, q3, F.at q4⟩
 · exact this
abbrev addE (i j : Nat) : E := .mt .append (.mt .sdef (.var 1) (.cons (.var i) (.cons (.lstE .nil) .nil))) (.cons (.tupE (.cons (.var 2) (.cons (.var j) .nil))) .nil)
theorem add_ok {call : Or} {env : DD.Env} {s0 s : Sto} {w i j z : Nat} {W : Nat → List (Int × Nat)} {mk : Int} {a b : Nat} (F : Fr s0 s) (hw : s0.length ≤ w) (h : WO s0.length s w W z) (hz : z < 1000000) (hW : ∀ n, (W n).length ≤ z)
    (e1 : getV env 1 = some (.loc w)) (e2 : getV env 2 = some (.int mk)) (ei : getV env i = some (.int (a : Nat))) (ej : getV env j = some (.int (b : Nat))) :
    Wr (evalE tab call (addE i j) env s) fun _ s' => Fr s0 s' ∧ WO s0.length s' w (fun n => if a = n then W n ++ [(mk, b)] else W n) (z + 1) := by
  obtain ⟨kvs, h1, h2, h3, h4⟩ := h.dct
  have hlw := (List.getElem?_eq_some_iff.mp h1).1
  refine w_mt (w_mt (w_var e1 ⟨rdy_dct h1, w_cons (w_var ei (w_cons (w_lst (w_nil ⟨szl 0 (by decide), w_nil ?_⟩)))) ⟩))
  have F1 : Fr s (s ++ [.lst []]) := .app _
  have hz1 : kvs.length < sizeLine := Nat.lt_of_lt_of_le (by omega : kvs.length < 16000000) (by decide)
  have arg : ∀ {s' : Sto} {Q : List D → Sto → Prop}, Q [.tup [.int mk, .int (b : Nat)]] s' → Wr (evalEs tab call (.cons (.tupE (.cons (.var 2) (.cons (.var j) .nil))) .nil) env s') Q := fun {s' Q} q =>
    w_cons (w_tup (w_cons (w_var e2 (w_cons (w_var ej (w_nil ⟨szl 2 (by decide), w_nil q⟩))))))
  cases lk : dLook kvs (.int (a : Nat)) with
  | some d =>
    have := h3 a
    rw [lk] at this
    obtain ⟨c, rfl, q2, q3, q4⟩ := this
    refine r_sdefS (F1.at h1) rfl hz1 lk ?_
    have q4' := F1.at q4
    refine ⟨rdy_lst q4', arg (r_append q4' (Nat.lt_of_lt_of_le (by have := hW a; simp; omega : ((W a).map encW).length < 16000000) (by decide)) ⟨(F.trans F1).set q2 _, kvs, ?_, by omega, fun n => ?_, h4⟩)⟩
    · rw [List.getElem?_set_ne q3]; exact F1.at h1
    · have hn := h3 n
      cases lk2 : dLook kvs (.int (n : Nat)) with
      | none =>
        rw [lk2] at hn
        have : a ≠ n := fun e => by subst e; rw [lk] at lk2; cases lk2
        simp only [if_neg this]
        exact hn
      | some d =>
        rw [lk2] at hn
        obtain ⟨c2, rfl, r2, r3, r4⟩ := hn
        refine ⟨c2, rfl, r2, r3, ?_⟩
        by_cases e : a = n
        · subst e
          rw [lk] at lk2; cases lk2
          rw [set_at q4']
          simp [encW]
        · have : c ≠ c2 := fun z => e (h4 a n c lk (z ▸ lk2))
          rw [List.getElem?_set_ne this, if_neg e]
          exact F1.at r4
  | none =>
    refine r_sdefN (F1.at h1) rfl hz1 lk ?_
    rw [put_new' lk]
    have hl : (s ++ [Cell.lst []])[s.length]? = some (.lst []) := gg0.trans rfl
    have hne : w ≠ s.length := Nat.ne_of_lt hlw
    have q4' : ((s ++ [Cell.lst []]).set w (.dct (kvs ++ [(.int (a : Nat), .loc s.length)])))[s.length]? = some (.lst []) := by rw [List.getElem?_set_ne hne]; exact hl
    refine ⟨rdy_lst q4', arg (r_append q4' (by decide) ⟨(((F.trans F1).set hw _).set F.len _), kvs ++ [(.int (a : Nat), .loc s.length)], ?_, by simp; omega, fun n => ?_, ?_⟩)⟩
    · rw [List.getElem?_set_ne (Ne.symm hne)]; exact set_at (F1.at h1) _
    · rw [dLook_app]
      have hn := h3 n
      cases lk2 : dLook kvs (.int (n : Nat)) with
      | some d =>
        rw [lk2] at hn
        obtain ⟨c2, rfl, r2, r3, r4⟩ := hn
        have hc := (List.getElem?_eq_some_iff.mp r4).1
        have : a ≠ n := fun e => by subst e; rw [lk] at lk2; cases lk2
        refine ⟨c2, rfl, r2, r3, ?_⟩
        rw [List.getElem?_set_ne (Ne.symm (Nat.ne_of_lt hc)), List.getElem?_set_ne (Ne.symm r3), if_neg this]
        exact F1.at r4
      | none =>
        rw [lk2] at hn
        by_cases e : a = n
        · subst e
          simp only [if_true]
          refine ⟨_, rfl, F.len, Ne.symm hne, ?_⟩
          rw [set_at q4', hn]
          simp [encW]
        · have : ¬ (D.int (a : Nat) = D.int (n : Nat)) := fun z => e (by cases z; rfl)
          simp only [if_neg this, if_neg e]
          exact hn
    · intro n n' c g1 g2
      rw [dLook_app] at g1 g2
      have aux : ∀ n : Nat, (match dLook kvs (.int (n : Nat)) with | some d => some d | none => if D.int (a : Nat) = D.int (n : Nat) then some (D.loc s.length) else none) = some (.loc c) → (dLook kvs (.int (n : Nat)) = some (.loc c) ∧ c < s.length) ∨ (a = n ∧ c = s.length) := by
        intro n g
        have hn := h3 n
        cases lk2 : dLook kvs (.int (n : Nat)) with
        | some d =>
          rw [lk2] at g hn
          cases g
          obtain ⟨c2, z, r2, r3, r4⟩ := hn
          cases z
          exact .inl ⟨rfl, (List.getElem?_eq_some_iff.mp r4).1⟩
        | none =>
          rw [lk2] at g
          simp only at g
          split at g
          · rename_i z; cases g; cases z; exact .inr ⟨rfl, rfl⟩
          · cases g
      rcases aux n g1 with ⟨y1, y2⟩ | ⟨y1, y2⟩ <;> rcases aux n' g2 with ⟨z1, z2⟩ | ⟨z1, z2⟩
      · exact h4 n n' c y1 z1
      · omega
      · omega
      · omega
theorem ways_snoc (NL : List NLk) (l : NLk) (h : Nat) : ways (NL ++ [l]) h = ways NL h ++ ways1 h l := by simp [ways]
theorem ways_len (NL : List NLk) (h : Nat) : (ways NL h).length ≤ 2 * NL.length := by
 unfold ways
 induction NL with
 | nil => simp
 | cons l r ih =>
  rw [List.flatMap_cons, List.length_append, List.length_cons]
  have : (ways1 h l).length ≤ 2 := by unfold ways1; split <;> split <;> simp
  omega
theorem ways_numbers {l : Nat} {NL : List NLk} (hl : lstOf st l = some (NL.map encN)) (hz : NL.length ≤ 1000) : Wr (C FF (n + 1) 5 [.loc l] st) fun d s => ∃ w, d = .loc w ∧ st.length ≤ w ∧ Fr st s ∧ WO st.length s w (ways NL) (2 * NL.length) := by
 refine w_fn [some (.loc l), none, none, none, none] (b := c_ways_of_numbers) rfl rfl (by decide) rfl ?_
 unfold c_ways_of_numbers
 repeat infer_instance
 refine ⟨NL.map encN, some l, ?_, ?_⟩
 · show walkOf false (st ++ [.dct []]) (.loc l) = _
   simp only [walkOf, Bool.false_eq_true, if_false, (Fr.app _).lst hl]; rfl
 refine w_loop (fun i env s => Fr st s ∧ WO st.length s st.length (ways (NL.take i)) (2 * i) ∧ ∃ a b c, env = [some (.loc l), some (.loc st.length), a, b, c]) (fun i env s h => decide_eq_true (h.1.lst hl)) ⟨.app _, ?_, none, none, none, rfl⟩ ?_ ?_
 · refine ⟨[], gg0.trans rfl, by simp, fun n => ?_, fun n n' c g => by simp [dLook] at g⟩
   simp [dLook, ways]
 · rintro j d hd env s ⟨F, hW, a, b, c, rfl⟩
   rw [List.getElem?_map] at hd
   cases hx : NL[j]? with
   | none => rw [hx] at hd; cases hd
   | some x =>
    rw [hx] at hd; cases hd
    have hj := (List.getElem?_eq_some_iff.mp hx).1
    refine w_turn (env' := [some (.loc l), some (.loc st.length), some (.int x.1), some (.int (x.2.1 : Nat)), some (.int (x.2.2 : Nat))]) rfl ?_
    refine ws_cons (ws_ex ((add_ok F (Nat.le_refl _) hW (by omega) (fun n => ?_) rfl rfl rfl rfl).imp ?_))
    · have := ways_len (NL.take j) n
      rw [List.length_take] at this
      omega
    rintro _ s1 ⟨F1, hW1⟩
    refine k_next (ws_cons (ws_ex ((add_ok F1 (Nat.le_refl _) hW1 (by omega) (fun n => ?_) rfl rfl rfl rfl).imp ?_)))
    · have := ways_len (NL.take j) n
      rw [List.length_take] at this
      split <;> simp <;> omega
    rintro _ s2 ⟨F2, hW2⟩
    refine k_next (ws_nil ⟨_, rfl, F2, ?_, _, _, _, rfl⟩)
    have e : (fun n => if x.2.2 = n then (if x.2.1 = n then ways (NL.take j) n ++ [(x.1, x.2.2)] else ways (NL.take j) n) ++ [(x.1, x.2.1)] else (if x.2.1 = n then ways (NL.take j) n ++ [(x.1, x.2.2)] else ways (NL.take j) n)) = ways (NL.take (j + 1)) := by
     funext n
     rw [List.take_add_one, hx, Option.toList_some, ways_snoc]
     unfold ways1
     by_cases q1 : x.2.1 = n <;> by_cases q2 : x.2.2 = n <;> simp [q1, q2]
    rw [e] at hW2
    exact hW2
 · rintro env s ⟨F, hW, a, b, c, rfl⟩
   rw [List.length_map, List.take_length] at hW
   repeat infer_instance
   exact ⟨_, rfl, Nat.le_refl _, F, hW⟩
end
section
variable {FF n k m : Nat} {st : Sto}
noncomputable def encP : Option (Int × Nat) → D
 | none => .non
 | some x => .tup [.int x.1, .int (x.2 : Nat)]
noncomputable def encR (R : RT) : List (D × D) := R.map fun x => (.int (x.1 : Nat), encP x.2)
theorem look_enc : ∀ (R : RT) (e : Nat), dLook (encR R) (.int (e : Nat)) = (R.lookup e).map encP
 | [], e => rfl
 | (x, y) :: r, e => by
  have ih := look_enc r e
  unfold dLook encR at ih ⊢
  rw [List.map_cons, List.find?_cons]
  by_cases h : x = e
  · subst h; simp
  · have h1 : ¬ (D.int (x : Nat) = D.int (e : Nat)) := fun z => h (by cases z; rfl)
    have h2 : (e == x) = false := by simpa using Ne.symm h
    simp only [decide_eq_false h1, List.lookup, h2]
    exact ih
theorem lookup_none : ∀ {R : RT} {e : Nat}, e ∉ ks R → R.lookup e = none
 | [], _, _ => rfl
 | (x, y) :: r, e, h => by
  have h1 : e ≠ x ∧ e ∉ ks r := by
   have : ks ((x, y) :: r) = x :: ks r := rfl
   rw [this, List.mem_cons, not_or] at h
   exact h
  have h2 : (e == x) = false := by simpa using h1.1
  simp only [List.lookup, h2]
  exact lookup_none h1.2
theorem look_none {R : RT} {e : Nat} (h : e ∉ ks R) : dLook (encR R) (.int (e : Nat)) = none := by rw [look_enc, lookup_none h]; rfl
theorem look_some {R : RT} (hn : (ks R).Nodup) {e : Nat} (h : e ∈ ks R) : ∃ d, dLook (encR R) (.int (e : Nat)) = some d := by
 obtain ⟨i, p, hi⟩ := ks_at h
 exact ⟨_, by rw [look_enc, look_at hn hi]; rfl⟩
theorem enc_put {R : RT} {e h : Nat} {m : Int} (hn : e ∉ ks R) : dPut (encR R) (.int (e : Nat)) (.tup [.int m, .int (h : Nat)]) = encR (R ++ [(e, some (m, h))]) := by
 rw [put_new' (look_none hn)]
 simp [encR, encP]
noncomputable def encK (R : RT) : List D := (ks R).map fun x => .int (x : Nat)
theorem frx_fr {r q : Nat} {s s' : Sto} (h : FrX s.length r q s s') (h0 : Fr st s) (hr : st.length ≤ r) (hq : st.length ≤ q) : Fr st s' := fun j hj => by
 rw [h.2 j (Nat.lt_of_lt_of_le hj h0.len) (by omega) (by omega)]
 exact h0 j hj
theorem atI_get {xs : List D} {i : Nat} {d : D} (h : xs[i]? = some d) : L2.atI xs (i : Nat) = some d := by
 obtain ⟨hl, he⟩ := List.getElem?_eq_some_iff.mp h
 simp [L2.atI, L2.ixN, hl, he]
theorem reached_from {w base a z : Nat} {NL : List NLk} (hW : WO base st w (ways NL) z) (hz : NL.length ≤ 1000) (hF : 2 * NL.length + 1 < FF) : Wr (C FF (n + 1) 6 [.loc w, .int (a : Nat)] st) fun d s => ∃ r, d = .loc r ∧ st.length ≤ r ∧ Fr st s ∧ s[r]? = some (.dct (encR (fin' NL a))) := by
 refine w_fn [some (.loc w), some (.int (a : Nat)), none, none, none, none, none, none] (b := c_reached_from) rfl rfl (by decide) rfl ?_
 unfold c_reached_from
 obtain ⟨kvs, hw1, hw2, hw3, hw4⟩ := hW.dct
 have hlw := (List.getElem?_eq_some_iff.mp hw1).1
 have g0 : (st ++ [Cell.dct []])[st.length]? = some (.dct []) := gg0.trans rfl
 refine ws_cons (ws_set (w_mt (w_dnew ⟨rdy_dct g0, w_cons (w_var rfl (w_cons (w_cst (w_nil (r_put1 g0 rfl ⟨of_decide_eq_true rfl, ?_⟩)))))⟩)))
 generalize hs1 : (st ++ [Cell.dct []]).set st.length (.dct [(D.int (a : Nat), D.non)]) = t1
 have F1 : Fr st t1 := by rw [← hs1]; exact (Fr.app _).set (Nat.le_refl _) _
 have r1 : t1[st.length]? = some (.dct (encR (bst NL a 0))) := by rw [← hs1]; exact set_at g0 _
 have l1 : t1.length = st.length + 1 := by rw [← hs1]; simp
 repeat infer_instance
 have q1 : (t1 ++ [Cell.lst [D.int (a : Nat)]])[st.length + 1]? = some (.lst (encK (bst NL a 0))) := by rw [← l1]; exact gg0.trans rfl
 rw [l1]
 refine ws_while (fun m env s => ∃ (k : Nat) (h x y : Option D), k ≤ (bst NL a k).length ∧ m + k = 2 * NL.length + 1 ∧ env = [some (.loc w), some (.int (a : Nat)), some (.loc st.length), some (.loc (st.length + 1)), some (.int (k : Nat)), h, x, y] ∧ Fr st s ∧ s[st.length]? = some (.dct (encR (bst NL a k))) ∧ s[st.length + 1]? = some (.lst (encK (bst NL a k)))) (2 * NL.length + 1) hF
  ⟨0, none, none, none, Nat.zero_le _, rfl, rfl, F1.trans (.app _), (Fr.app _).at r1, q1⟩ ?_
 rintro m env s ⟨k, h, x, y, hk, hm, rfl, F, hr, hq⟩
 have I := bst_ri NL a k
 have hlen := I.len
 have lk : (encK (bst NL a k)).length = (bst NL a k).length := by simp [encK, ks]
 repeat infer_instance
 refine r_lenL (lst_at hq) ?_
 repeat infer_instance
 refine ⟨_, rfl, fun g => ?_, fun g => ?_⟩
 · have g := of_decide_eq_true g
   rw [lk] at g
   have hlt : k < (bst NL a k).length := by omega
   obtain ⟨he, hp⟩ : ∃ e, ∃ p, (bst NL a k)[k]? = some (e, p) := ⟨_, _, List.getElem?_eq_getElem hlt⟩
   obtain ⟨p, hp⟩ := hp
   have hb : bst NL a (k + 1) = (ways NL he).foldl (s1 he) (bst NL a k) := by simp only [bst, hp]
   repeat infer_instance
   refine r_ixL (lst_at hq) (d := .int (he : Nat)) (atI_get (by simp [encK, ks, hp])) ?_
   repeat infer_instance
   refine ⟨rdy_dct (F.at hw1), ?_⟩
   repeat infer_instance
   have hd : ∃ pl, (dLook kvs (.int (he : Nat))).getD (.loc s.length) = .loc pl ∧ (s ++ [Cell.lst []])[pl]? = some (.lst ((ways NL he).map encW)) ∧ pl ≠ st.length ∧ pl ≠ st.length + 1 := by
    have := hw3 he
    cases z : dLook kvs (.int (he : Nat)) with
    | some d =>
     rw [z] at this
     obtain ⟨c, rfl, c2, c3, c4⟩ := this
     have := (List.getElem?_eq_some_iff.mp c4).1
     exact ⟨c, rfl, (Fr.app _).at (F.at c4), by omega, by omega⟩
    | none =>
     rw [z] at this
     simp only at this
     have h2 := (List.getElem?_eq_some_iff.mp hq).1
     exact ⟨s.length, rfl, by rw [this]; exact gg0.trans rfl, by omega, by omega⟩
   refine r_get2 ((Fr.app _).at (F.at hw1)) rfl ?_
   obtain ⟨pl, hpl, hl, n1, n2⟩ := hd
   rw [hpl]
   refine ⟨(ways NL he).map encW, some pl, ?_, ?_⟩
   · simp only [walkOf, Bool.false_eq_true, if_false, lst_at hl]; rfl
   have hpl' := (List.getElem?_eq_some_iff.mp hl).1
   refine w_loop (fun i env s' => (∃ x y, env = [some (.loc w), some (.int (a : Nat)), some (.loc st.length), some (.loc (st.length + 1)), some (.int (k : Nat)), some (.int (he : Nat)), x, y]) ∧ FrX (s ++ [Cell.lst []]).length st.length (st.length + 1) (s ++ [Cell.lst []]) s' ∧ s'[st.length]? = some (.dct (encR (((ways NL he).take i).foldl (s1 he) (bst NL a k)))) ∧ s'[st.length + 1]? = some (.lst (encK (((ways NL he).take i).foldl (s1 he) (bst NL a k))))) ?_ ⟨⟨x, y, rfl⟩, .refl _, (Fr.app _).at hr, (Fr.app _).at hq⟩ ?_ ?_
   · rintro i env s' ⟨_, Fx, _, _⟩
     exact decide_eq_true (lst_at ((Fx.2 pl hpl' n1 n2).trans hl))
   · rintro j d hd env s' ⟨⟨x, y, rfl⟩, Fx, hr', hq'⟩
     rw [List.getElem?_map] at hd
     cases hx : (ways NL he)[j]? with
     | none => rw [hx] at hd; cases hd
     | some v =>
      rw [hx] at hd; cases hd
      have Ij : RI NL a (((ways NL he).take j).foldl (s1 he) (bst NL a k)) := I.fs (at_ks hp) fun z hz => List.mem_of_mem_take hz
      have lj := Ij.len
      have et : ((ways NL he).take (j + 1)).foldl (s1 he) (bst NL a k) = s1 he (((ways NL he).take j).foldl (s1 he) (bst NL a k)) v := by rw [List.take_add_one, hx]; simp
      rw [et]
      generalize ((ways NL he).take j).foldl (s1 he) (bst NL a k) = R at *
      refine w_turn (env' := [some (.loc w), some (.int (a : Nat)), some (.loc st.length), some (.loc (st.length + 1)), some (.int (k : Nat)), some (.int (he : Nat)), some (.int v.1), some (.int (v.2 : Nat))]) rfl ?_
      repeat infer_instance
      refine r_notInDct hr' rfl ?_
      by_cases hv : v.2 ∈ ks R
      · obtain ⟨d, hd⟩ := look_some Ij.nd hv
        rw [hd]
        refine ⟨_, rfl, wp_nt ?_⟩
        repeat infer_instance
        have : s1 he R v = R := by unfold s1; rw [if_pos hv]
        rw [this]
        exact ⟨_, rfl, ⟨_, _, rfl⟩, Fx, hr', hq'⟩
      · rw [look_none hv]
        refine ⟨_, rfl, wp_nf ?_⟩
        have : s1 he R v = R ++ [(v.2, some (v.1, he))] := by unfold s1; rw [if_neg hv]
        rw [this]
        repeat infer_instance
        refine ⟨_, _, rfl, hr', rfl, Nat.lt_of_lt_of_le (by simp [encR]; omega : (encR R).length < 16000000) (by decide), ?_⟩
        rw [enc_put hv]
        have hq2 : (s'.set st.length (.dct (encR (R ++ [(v.2, some (v.1, he))]))))[st.length + 1]? = some (.lst (encK R)) := by rw [List.getElem?_set_ne (by omega)]; exact hq'
        repeat infer_instance
        refine ⟨rdy_lst hq2, ?_⟩
        repeat infer_instance
        refine r_append hq2 (Nat.lt_of_lt_of_le (by simp [encK, ks]; omega : (encK R).length < 16000000) (by decide)) ?_
        repeat infer_instance
        refine ⟨_, rfl, ⟨_, _, rfl⟩, ?_, ?_, ?_⟩
        · refine Fx.trans ⟨by simp, fun j hj h1 h2 => ?_⟩
          rw [List.getElem?_set_ne (Ne.symm h2), List.getElem?_set_ne (Ne.symm h1)]
        · rw [List.getElem?_set_ne (by omega)]; exact set_at hr' _
        · rw [set_at hq2]; simp [encK, ks]
   · rintro env s' ⟨⟨x, y, rfl⟩, Fx, hr', hq'⟩
     rw [List.length_map, List.take_length, ← hb] at hr' hq'
     repeat infer_instance
     refine ⟨_, rfl, ?_⟩
     repeat infer_instance
     have F2 : Fr st s' := frx_fr Fx (F.trans (.app _)) (Nat.le_refl _) (Nat.le_succ _)
     refine ⟨_, m - 1, rfl, by omega, k + 1, _, _, _, ?_, by omega, rfl, F2, hr', hq'⟩
     have := (bst_pre1 NL a k).length_le
     omega
 · have g := of_decide_eq_false g
   rw [lk] at g
   have hst : (bst NL a k).length ≤ k := by omega
   rw [fin_of hst (by omega)] at hr
   repeat infer_instance
   exact ⟨_, rfl, Nat.le_refl _, F, hr⟩
end
section
variable {FF n k m : Nat} {st : Sto}
noncomputable def gr (T : List D) (l : Lk) : List D := grow 4 (grow 4 T l.2.1) l.2.2
noncomputable def TL (L : List Lk) : List D := L.foldl gr []
def Ok4 (L : List Lk) : Prop := ∀ l ∈ L, Tm 4 l.2.1 ∧ Tm 4 l.2.2
theorem gr_pre (T : List D) (l : Lk) : T <+: gr T l := (grow_pre 4 _ _).trans (grow_pre 4 _ _)
theorem gr_good {T : List D} {l : Lk} (G : Good T) (h : Tm 4 l.2.1 ∧ Tm 4 l.2.2) : Good (gr T l) := grow_good 4 _ _ (grow_good 4 _ _ G h.1) h.2
theorem gr_len {T : List D} {l : Lk} (h : Tm 4 l.2.1 ∧ Tm 4 l.2.2) : (gr T l).length ≤ T.length + 2 * B 4 := by
 have h1 := grow_len 4 T l.2.1 h.1
 have h2 := grow_len 4 (grow 4 T l.2.1) l.2.2 h.2
 unfold gr
 omega
theorem TL_snoc (L : List Lk) (l : Lk) : TL (L ++ [l]) = gr (TL L) l := by simp [TL]
theorem TL_ok : ∀ (n : Nat) (L : List Lk), L.length = n → Ok4 L → Good (TL L) ∧ (TL L).length ≤ n * (2 * B 4) ∧ ∀ l ∈ L, l.2.1 ∈ TL L ∧ l.2.2 ∈ TL L
 | 0, L, h, _ => by
  have : L = [] := List.length_eq_zero_iff.mp h
  subst this
  exact ⟨Good.nil, by simp [TL], by simp⟩
 | n + 1, L, h, ok => by
  obtain ⟨L', l, rfl⟩ : ∃ L' l, L = L' ++ [l] := by
   have hne : L ≠ [] := fun z => by subst z; cases h
   exact ⟨L.dropLast, L.getLast hne, (List.dropLast_concat_getLast hne).symm⟩
  have hl : L'.length = n := by simpa using h
  obtain ⟨g1, g2, g3⟩ := TL_ok n L' hl fun x hx => ok x (List.mem_append_left _ hx)
  have okl := ok l (by simp)
  rw [TL_snoc]
  refine ⟨gr_good g1 okl, ?_, fun x hx => ?_⟩
  · have := gr_len (T := TL L') okl
    have e : (n + 1) * (2 * B 4) = n * (2 * B 4) + 2 * B 4 := by rw [Nat.add_mul, Nat.one_mul]
    omega
  · rcases List.mem_append.mp hx with z | z
    · exact ⟨(gr_pre _ _).subset (g3 x z).1, (gr_pre _ _).subset (g3 x z).2⟩
    · rw [List.mem_singleton.mp z]
      exact ⟨(grow_pre 4 _ _).subset grow_self, grow_self⟩
theorem B4 : B 4 = 40 := rfl
theorem nl_pre {T U : List D} (h : T <+: U) {L : List Lk} (hL : ∀ l ∈ L, l.2.1 ∈ T ∧ l.2.2 ∈ T) : nl (fun x => U.idxOf x) L = nl (fun x => T.idxOf x) L := by
 unfold nl
 refine List.map_congr_left fun l hl => ?_
 show (l.1, U.idxOf l.2.1, U.idxOf l.2.2) = (l.1, T.idxOf l.2.1, T.idxOf l.2.2)
 rw [idx_pre h (hL l hl).1, idx_pre h (hL l hl).2]
theorem num_call {s a b : Nat} {t : Sto} {d : D} {T : List D} (hd : Tm 4 d) (N : Nb t s a b T) (G : Good T) (hz : T.length ≤ 1000000) : Wr (C FF (n + 5) 3 [.loc s, d] t) fun r t' => r = .int ((grow 4 T d).idxOf d : Nat) ∧ Nb t' s a b (grow 4 T d) ∧ FrX t.length a b t t' := by
 have := number_ok (FF := FF) (s := s) (a := a) (b := b) 4 n
 rw [show 4 + 1 + n = n + 5 by omega] at this
 obtain ⟨t', e, h1, h2⟩ := this d hd t T N G (by rw [B4]; omega)
 exact ⟨_, t', e, rfl, h1, h2⟩
theorem ways_of {s a b l : Nat} {L : List Lk} (N : Nb st s a b []) (hl : lstOf st l = some (L.map enc)) (ok : Ok4 L) (hz : L.length ≤ 100) (la : l ≠ a) (lb : l ≠ b) : Wr (C FF (n + 6) 4 [.loc s, .loc l] st) fun d t => ∃ w, d = .loc w ∧ Nb t s a b (TL L) ∧ FrX st.length a b st t ∧ ∃ base, st.length ≤ base ∧ base ≤ w ∧ WO base t w (ways (nl (fun x => (TL L).idxOf x) L)) (2 * L.length) := by
 refine w_fn [some (.loc s), some (.loc l)] (b := c_ways_of) rfl rfl (by decide) rfl ?_
 unfold c_ways_of
 have hla := (List.getElem?_eq_some_iff.mp N.t).1
 have hlb := (List.getElem?_eq_some_iff.mp N.d).1
 have hls := (List.getElem?_eq_some_iff.mp N.i).1
 have lsl : l < st.length := by
  unfold lstOf at hl
  cases z : st[l]? with
  | none => rw [z] at hl; cases hl
  | some c => exact (List.getElem?_eq_some_iff.mp z).1
 refine ws_cons (ws_ret (w_call (w_cons (w_compR (w_var rfl ⟨L.map enc, some l, fun i ys t => Nb t s a b (TL (L.take i)) ∧ ys = (nl (fun x => (TL (L.take i)).idxOf x) (L.take i)).map encN ∧ FrX st.length a b st t, ?_, ?_, ?_, ?_, ?_, ?_⟩)))))
 · simp only [itOf, hl]; rfl
 · exact szl _ (by simp; omega)
 · rintro i ys t ⟨_, _, F⟩
   refine decide_eq_true ?_
   unfold lstOf
   rw [F.2 l lsl la lb]
   exact hl
 · refine ⟨?_, rfl, ⟨by simp, fun j hj _ _ => List.getElem?_append_left hj⟩⟩
   exact ⟨by rw [List.getElem?_append_left hls]; exact N.i, by rw [List.getElem?_append_left hla]; exact N.t, by rw [List.getElem?_append_left hlb]; exact N.d⟩
 · rintro j d hd t ys ⟨N1, rfl, F1⟩ hy
   rw [List.getElem?_map] at hd
   cases hx : L[j]? with
   | none => rw [hx] at hd; cases hd
   | some x =>
    rw [hx] at hd; cases hd
    have hjl := (List.getElem?_eq_some_iff.mp hx).1
    have okx := ok x (List.mem_of_getElem? hx)
    have ht : (L.take j).length = j := by rw [List.length_take]; omega
    obtain ⟨G1, g2, g3⟩ := TL_ok j (L.take j) ht fun y hy => ok y (List.mem_of_mem_take hy)
    have hn0 : st.length < t.length := (List.getElem?_eq_some_iff.mp hy).1
    rw [B4] at g2
    have hgl := grow_len 4 (TL (L.take j)) x.2.1 okx.1
    rw [B4] at hgl
    refine w_turnC (env' := [some (.int x.1), some x.2.1, some x.2.2, some (.loc s)]) rfl (wi_nil (wp_t (w_tup (w_cons (w_var rfl (w_cons (w_meth (w_var rfl ⟨s, _, rfl, N1.i, fsN_m, w_cons (w_var rfl (w_nil ((num_call (n := n) okx.1 N1 G1 (by omega)).imp ?_)))⟩))))))))
    rintro _ t2 ⟨rfl, N2, F2⟩
    refine w_cons (w_meth (w_var rfl ⟨s, _, rfl, N2.i, fsN_m, w_cons (w_var rfl (w_nil ((num_call (n := n) okx.2 N2 (grow_good 4 _ _ G1 okx.1) (by omega)).imp ?_)))⟩))
    rintro _ t3 ⟨rfl, N3, F3⟩
    have e1 : (grow 4 (TL (L.take j)) x.2.1).idxOf x.2.1 = (gr (TL (L.take j)) x).idxOf x.2.1 := (idx_pre (grow_pre 4 _ _) grow_self).symm
    have e2 : TL (L.take (j + 1)) = gr (TL (L.take j)) x := by rw [List.take_add_one, hx, Option.toList_some, TL_snoc]
    have e3 : (nl (fun y => (TL (L.take (j + 1))).idxOf y) (L.take (j + 1))).map encN = (nl (fun y => (TL (L.take j)).idxOf y) (L.take j)).map encN ++ [.tup [.int x.1, .int ((gr (TL (L.take j)) x).idxOf x.2.1 : Nat), .int ((gr (TL (L.take j)) x).idxOf x.2.2 : Nat)]] := by
     rw [e2, List.take_add_one, hx, Option.toList_some, ← nl_pre (gr_pre _ x) g3]
     simp [nl, encN]
    refine w_nil ⟨szl 3 (by decide), ?_⟩
    have hl2 : t.length ≤ t2.length := F2.1
    refine ⟨?_, .inl ⟨_, rfl, ?_, ?_, ?_⟩⟩
    · rw [F3.2 _ (by omega) (by omega) (by omega), F2.2 _ hn0 (by omega) (by omega)]; exact hy
    · have hne : ∀ z, z < st.length → z ≠ st.length := fun z h => by omega
      rw [e2]
      exact ⟨by rw [List.getElem?_set_ne (Ne.symm (hne _ hls))]; exact N3.i, by rw [List.getElem?_set_ne (Ne.symm (hne _ hla))]; exact N3.t, by rw [List.getElem?_set_ne (Ne.symm (hne _ hlb))]; exact N3.d⟩
    · rw [e3, e1]; rfl
    · refine F1.trans (((F2.down (by omega)).trans (F3.down (by omega))).trans ⟨by simp, fun j hj _ _ => ?_⟩)
      rw [List.getElem?_set_ne (by omega)]
 · rintro t ys ⟨N1, rfl, F1⟩ hy
   rw [List.length_map, List.take_length] at *
   refine w_nil ?_
   refine (ways_numbers (n := n + 4) (lst_at hy) (by simp [nl]; omega)).imp ?_
   rintro _ t2 ⟨w, rfl, hw, F2, hW⟩
   refine k_ret (kf_ret ⟨w, rfl, ⟨F2.at N1.i, F2.at N1.t, F2.at N1.d⟩, F1.trans ⟨F2.len, fun j hj _ _ => ?_⟩, _, F1.1, hw, by simpa [nl] using hW⟩)
   exact F2 j (Nat.lt_of_lt_of_le hj F1.1)
end
section
variable {FF n k m : Nat} {st : Sto}
theorem r1_len (s : List D) (l : Lk) : (r1 s l).length ≤ s.length + 1 := by
 rw [r1_eq]
 split <;> split <;> simp
theorem rf_len : ∀ (L : List Lk) (s : List D), (L.foldl r1 s).length ≤ s.length + L.length
 | [], s => by simp
 | l :: r, s => by
  have h1 := r1_len s l
  have h2 := rf_len r (r1 s l)
  simp only [List.foldl_cons, List.length_cons]
  omega
theorem rnds_succ (L : List Lk) : ∀ (k : Nat) (s : List D), rnds L (k + 1) s = rnd L (rnds L k s)
 | 0, s => rfl
 | k + 1, s => by rw [rnds, rnds_succ L k (rnd L s)]; rfl
theorem all40 {s : List D} (h : ∀ x ∈ s, okN 40 x = true) : s.all (okN 40) = true := List.all_eq_true.mpr h
theorem take_snoc {α β : Type} {f : β → α → β} {b : β} {L : List α} {j : Nat} {x : α} (h : L[j]? = some x) : (L.take (j + 1)).foldl f b = f ((L.take j).foldl f b) x := by
 rw [List.take_add_one, h, Option.toList_some, List.foldl_append]; rfl
theorem law_reached {l : Nat} {L : List Lk} {a : D} (hl : lstOf st l = some (L.map enc)) (ok : Ok4 L) (ha : Tm 4 a) (hz : L.length ≤ 100) : Wr (C FF (n + 1) 11 [.loc l, a] st) fun d s => ∃ q, d = .loc q ∧ st.length ≤ q ∧ Fr st s ∧ s[q]? = some (.lst (lawR L a)) := by
  refine w_fn [some (.loc l), some a, none, none, none, none, none] (b := c__law_reached) rfl rfl (by decide) rfl ?_
  unfold c__law_reached
  have okL : ∀ x ∈ L, okN 40 x.2.1 = true ∧ okN 40 x.2.2 = true := fun x hx => ⟨(ok x hx).1.ok40 (by decide), (ok x hx).2.ok40 (by decide)⟩
  have oka := ha.ok40 (by decide)
  have okF : ∀ {s : List D} (L' : List Lk), (∀ x ∈ L', x ∈ L) → (∀ x ∈ s, okN 40 x = true) → ∀ x ∈ L'.foldl r1 s, okN 40 x = true := fun {s} L' hs h => rnd_gen (P := fun x => okN 40 x = true) L' (fun x hx => iff_of_true (okL x (hs x hx)).1 (okL x (hs x hx)).2) h
  repeat infer_instance
  refine r_lenL ((Fr.app _).lst hl) ?_
  rw [List.length_map]
  repeat infer_instance
  refine ⟨rngL 0 L.length, ?_, ?_⟩
  · show rngOf [.int (L.length : Nat)] = _
    simp only [rngOf]
    rw [if_pos (by omega)]; rfl
  have ll : (rngL 0 L.length).length = L.length := by simp [rngL]
  refine w_loop (fun i env s => (∃ x y z w, env = [some (.loc l), some a, some (.loc st.length), x, y, z, w]) ∧ Fr st s ∧ s[st.length]? = some (.lst (rnds L i [a])) ∧ (rnds L i [a]).length ≤ 1 + i * 100 ∧ ∀ x ∈ rnds L i [a], okN 40 x = true) (fun _ _ _ _ => rfl) ⟨⟨none, none, none, none, rfl⟩, .app _, gg0.trans rfl, by simp [rnds], by simpa [rnds] using oka⟩ ?_ ?_
  · rintro j d hd env s ⟨⟨x, y, z, w, rfl⟩, F, hq, hlen, hok⟩
    have hj : j < L.length := by
      have := (List.getElem?_eq_some_iff.mp hd).1
      omega
    refine w_turn (env' := [some (.loc l), some a, some (.loc st.length), some d, y, z, w]) rfl ?_
    rw [rnds_succ]
    generalize rnds L j [a] = S0 at *
    repeat infer_instance
    refine ⟨L.map enc, some l, ?_, ?_⟩
    · simp only [walkOf, Bool.false_eq_true, if_false, F.lst hl]; rfl
    refine w_loop (fun i env s => (∃ y z w, env = [some (.loc l), some a, some (.loc st.length), some d, y, z, w]) ∧ Fr st s ∧ s[st.length]? = some (.lst ((L.take i).foldl r1 S0))) (fun i env s h => decide_eq_true (h.2.1.lst hl)) ⟨⟨y, z, w, rfl⟩, F, hq⟩ ?_ ?_
    · rintro i e he env s ⟨⟨y, z, w, rfl⟩, F, hq⟩
      rw [List.getElem?_map] at he
      cases hx : L[i]? with
      | none => rw [hx] at he; cases he
      | some v =>
        rw [hx] at he; cases he
        rw [take_snoc hx]
        have hS := okF (L.take i) (fun x hx => List.mem_of_mem_take hx) hok
        have hSl := rf_len (L.take i) S0
        rw [List.length_take] at hSl
        generalize (L.take i).foldl r1 S0 = S at *
        have hv := okL v (List.mem_of_getElem? hx)
        have hbig : S.length + 1 < sizeLine := Nat.lt_of_lt_of_le (by omega : S.length + 1 < 16000000) (by decide)
        refine w_turn (env' := [some (.loc l), some a, some (.loc st.length), some d, some (.int v.1), some v.2.1, some v.2.2]) rfl ?_
        have second : ∀ (S1 : List D) (s1 : Sto), Fr st s1 → s1[st.length]? = some (.lst S1) → (∀ x ∈ S1, okN 40 x = true) → S1.length < sizeLine →
            Wr (execSs tab (C FF n) FF (.cons (.ifS (.andE (.cm .inL (.var 6) (.var 2)) (.cm .notIn (.var 5) (.var 2))) (.cons (.ex (.mt .append (.var 2) (.cons (.var 5) .nil))) .nil) .nil) .nil) [some (.loc l), some a, some (.loc st.length), some d, some (.int v.1), some v.2.1, some v.2.2] s1) fun f s => ∃ env', f = .next env' ∧ (∃ y z w, env' = [some (.loc l), some a, some (.loc st.length), some d, y, z, w]) ∧ Fr st s ∧ s[st.length]? = some (.lst (if v.2.2 ∈ S1 ∧ v.2.1 ∉ S1 then S1 ++ [v.2.1] else S1)) := by
          intro S1 s1 F1 h1 o1 b1
          repeat infer_instance
          refine r_inL (lst_at h1) hv.2 (all40 o1) ⟨_, rfl, fun g => ?_, fun g => ?_⟩
          · have g := of_decide_eq_true g
            repeat infer_instance
            refine r_notInL (lst_at h1) hv.1 (all40 o1) ⟨_, rfl, fun g2 => ?_, fun g2 => ?_⟩
            · have g2 : v.2.1 ∉ S1 := by simpa using g2
              rw [if_pos ⟨g, g2⟩]
              repeat infer_instance
              refine ⟨rdy_lst h1, ?_⟩
              repeat infer_instance
              refine r_append h1 b1 ?_
              repeat infer_instance
              exact ⟨_, rfl, ⟨_, _, _, rfl⟩, F1.set (Nat.le_refl _) _, set_at h1 _⟩
            · have g2 : v.2.1 ∈ S1 := by simpa using g2
              rw [if_neg fun z => z.2 g2]
              repeat infer_instance
              exact ⟨_, rfl, ⟨_, _, _, rfl⟩, F1, h1⟩
          · have g := of_decide_eq_false g
            rw [if_neg fun z => g z.1]
            refine wp_f ?_
            repeat infer_instance
            exact ⟨_, rfl, ⟨_, _, _, rfl⟩, F1, h1⟩
        unfold r1
        refine ws_cons (ws_if (wt_and (wt_cm (w_var rfl (w_var rfl (r_inL (lst_at hq) hv.1 (all40 hS) ⟨_, rfl, fun g => ?_, fun g => ?_⟩))))))
        · have g := of_decide_eq_true g
          refine wt_cm (w_var rfl (w_var rfl (r_notInL (lst_at hq) hv.2 (all40 hS) ⟨_, rfl, fun g2 => ?_, fun g2 => ?_⟩)))
          · have g2 : v.2.2 ∉ S := by simpa using g2
            have hh : (if v.2.1 ∈ S ∧ v.2.2 ∉ S then S ++ [v.2.2] else S) = S ++ [v.2.2] := if_pos ⟨g, g2⟩
            rw [hh]
            refine ws_cons (ws_ex (w_mt (w_var rfl ⟨rdy_lst hq, w_cons (w_var rfl (w_nil (r_append hq (by omega) (k_next (ws_nil (k_next ?_))))))⟩)))
            refine second (S ++ [v.2.2]) _ (F.set (Nat.le_refl _) _) (set_at hq _) (fun x hx => ?_) (by simp; omega)
            rcases List.mem_append.mp hx with z | z
            · exact hS x z
            · rw [List.mem_singleton.mp z]; exact hv.2
          · have g2 : v.2.2 ∈ S := by simpa using g2
            have hh : (if v.2.1 ∈ S ∧ v.2.2 ∉ S then S ++ [v.2.2] else S) = S := if_neg fun z => z.2 g2
            rw [hh]
            exact ws_nil (k_next (second S s F hq hS (by omega)))
        · have g := of_decide_eq_false g
          have hh : (if v.2.1 ∈ S ∧ v.2.2 ∉ S then S ++ [v.2.2] else S) = S := if_neg fun z => g z.1
          rw [hh]
          exact wp_f (ws_nil (k_next (second S s F hq hS (by omega))))
    · rintro env s ⟨⟨y, z, w, rfl⟩, F, hq⟩
      rw [List.length_map, List.take_length] at hq
      repeat infer_instance
      refine ⟨_, rfl, ⟨_, _, _, _, rfl⟩, F, hq, ?_, okF L (fun _ h => h) hok⟩
      have := rf_len L S0
      show (L.foldl r1 S0).length ≤ _
      rw [Nat.add_mul]
      omega
  · rintro env s ⟨⟨x, y, z, w, rfl⟩, F, hq, _, _⟩
    rw [ll] at hq
    repeat infer_instance
    exact ⟨_, rfl, Nat.le_refl _, F, hq⟩
theorem cell_at {x : Nat} {ns : List Int} {j : Nat} (hx : lstOf st x = some (ns.map D.int)) : Wr (C FF (n + 1) 8 [.loc x, .int (j : Nat)] st) fun d s => s = st ∧ ∃ i, d = .int i := by
 refine w_fn [some (.loc x), some (.int (j : Nat))] (b := c__law_cell_at) rfl rfl (by decide) rfl ?_
 unfold c__law_cell_at
 repeat infer_instance
 refine r_lenL hx ?_
 repeat infer_instance
 refine ⟨_, rfl, fun g => ?_, fun g => ?_⟩
 · have g := of_decide_eq_true g
   have hj : j < ns.length := by rw [List.length_map] at g; omega
   repeat infer_instance
   refine r_ixL hx (d := .int ns[j]) (atI_get (by simp [hj])) ?_
   repeat infer_instance
   exact ⟨rfl, _, rfl⟩
 · repeat infer_instance
   exact ⟨rfl, _, rfl⟩
theorem fm {i j : Int} (h : 0 < j) : 0 ≤ i.fmod j ∧ i.fmod j < j := ⟨Int.fmod_nonneg_of_pos i h, Int.fmod_lt_of_pos i h⟩
theorem stream_ok {c : Int} {M : Nat} (hM : M ≤ 10) (hF : 11 < FF) : Wr (C FF (n + 1) 9 [.int c, .int (M : Nat)] st) fun d s => ∃ (q : Nat) (is : List Int), d = .loc q ∧ st.length ≤ q ∧ Fr st s ∧ s[q]? = some (.lst (is.map D.int)) ∧ is.length = M := by
  refine w_fn [some (.int c), some (.int (M : Nat)), none, none, none] (b := c__law_stream) rfl rfl (by decide) rfl ?_
  unfold c__law_stream
  repeat infer_instance
  refine ws_while (fun m env s => ∃ (is : List Int) (left : Int), is.length + m = M ∧ env = [some (.int c), some (.int (M : Nat)), some (.loc st.length), some (.int left), none] ∧ Fr st s ∧ s[st.length]? = some (.lst (is.map D.int))) M (by omega) ⟨[], _, by simp, rfl, .app _, gg0.trans rfl⟩ ?_
  rintro m env s ⟨is, left, hm, rfl, F, hq⟩
  have hbig : (is.map D.int).length < sizeLine := Nat.lt_of_lt_of_le (by simp; omega : (is.map D.int).length < 16000000) (by decide)
  have rest : ∀ (s : Sto) (is : List Int) (left : Int), is.length ≤ M → Fr st s → s[st.length]? = some (.lst (is.map D.int)) →
      Wr (execSs tab (C FF n) FF (.cons (.set 3 (.op .mod (.op .mul (.op .add (.op .fdiv (.var 0) (.cst (.int 2))) (.cst (.int 7919))) (.cst (.int 48271))) (.cst (.int 2147483647)))) (.cons (.forR [4] (.cons (.var 1) .nil) (.cons (.set 3 (.op .mod (.op .mul (.var 3) (.op .add (.op .add (.op .fdiv (.var 3) (.cst (.int 1009))) (.cst (.int 69621))) (.var 4))) (.cst (.int 2147483647)))) (.cons (.ex (.mt .append (.var 2) (.cons (.var 3) .nil))) (.cons (.set 3 (.op .add (.var 3) (.cst (.int 1)))) .nil)))) (.cons (.ret (.sl 2 (.var 2) (.cons (.var 1) .nil))) .nil))) [some (.int c), some (.int (M : Nat)), some (.loc st.length), some (.int left), none] s) (Kf fun d s => ∃ (q : Nat) (is : List Int), d = .loc q ∧ st.length ≤ q ∧ Fr st s ∧ s[q]? = some (.lst (is.map D.int)) ∧ is.length = M) := by
    intro s is left hl F hq
    repeat infer_instance
    have h0 := fm (i := (c.fdiv 2 + 7919) * 48271) (j := 2147483647) (by decide)
    generalize ((c.fdiv 2 + 7919) * 48271).fmod 2147483647 = nb0 at *
    refine ⟨rngL 0 M, ?_, ?_⟩
    · show rngOf [.int (M : Nat)] = _
      simp only [rngOf]
      rw [if_pos (by omega)]; rfl
    refine w_loop (fun j env s => ∃ (is2 : List Int) (nb : Int) (x : Option D), is2.length = is.length + j ∧ 0 ≤ nb ∧ nb ≤ 2147483647 ∧ env = [some (.int c), some (.int (M : Nat)), some (.loc st.length), some (.int nb), x] ∧ Fr st s ∧ s[st.length]? = some (.lst (is2.map D.int))) (fun _ _ _ _ => rfl) ⟨is, nb0, none, rfl, h0.1, by omega, rfl, F, hq⟩ ?_ ?_
    · rintro j d hd env s ⟨is2, nb, x, e1, n1, n2, rfl, F, hq⟩
      have hj : j < M := by
        have := (List.getElem?_eq_some_iff.mp hd).1
        simpa [rngL] using this
      have hd' : d = .int (0 + (j : Nat)) := by
        have := (List.getElem?_eq_some_iff.mp hd).2
        simp [rngL] at this
        simp [← this]
      subst hd'
      refine w_turn (env' := [some (.int c), some (.int (M : Nat)), some (.loc st.length), some (.int nb), some (.int (0 + (j : Nat)))]) rfl ?_
      repeat infer_instance
      refine r_mulL ⟨by omega, by omega⟩ ?_
      repeat infer_instance
      have h1 := fm (i := nb * (nb.fdiv 1009 + 69621 + (0 + (j : Nat)))) (j := 2147483647) (by decide)
      generalize (nb * (nb.fdiv 1009 + 69621 + (0 + (j : Nat)))).fmod 2147483647 = nb1 at *
      refine ⟨rdy_lst hq, ?_⟩
      repeat infer_instance
      refine r_append hq (Nat.lt_of_lt_of_le (by simp; omega : (is2.map D.int).length < 16000000) (by decide)) ?_
      repeat infer_instance
      refine ⟨_, rfl, is2 ++ [nb1], nb1 + 1, _, by simp; omega, by omega, by omega, rfl, F.set (Nat.le_refl _) _, ?_⟩
      rw [set_at hq]; simp
    · rintro env s ⟨is2, nb, x, e1, n1, n2, rfl, F, hq⟩
      have : (rngL 0 M).length = M := by simp [rngL]
      rw [this] at e1
      repeat infer_instance
      refine ⟨_, rfl, ?_⟩
      repeat infer_instance
      refine r_slL (lo := none) (hi := some (M : Nat)) rfl (lst_at hq) ?_
      repeat infer_instance
      refine ⟨_, is2.take M, rfl, F.len, F.trans (.app _), ?_, by rw [List.length_take]; omega⟩
      rw [gg0, cut_take, List.map_take]; rfl
  refine wt_and (wt_cm (w_op (w_var rfl (w_cst (r_mod (by decide) (w_cst (r_eqi ⟨_, rfl, fun g => ?_, fun g => ?_⟩)))))))
  · refine wt_and (wt_cm (w_var rfl (w_cst (r_gt ⟨_, rfl, fun g2 => ?_, fun g2 => ?_⟩))))
    · refine wt_cm (w_bt (w_cons (w_var rfl (w_nil (r_lenL (lst_at hq) (w_var rfl (r_lt ⟨_, rfl, fun g3 => ?_, fun g3 => ?_⟩)))))))
      · have g3 := of_decide_eq_true g3
        rw [List.length_map] at g3
        repeat infer_instance
        refine ⟨rdy_lst hq, ?_⟩
        repeat infer_instance
        refine r_append hq hbig ?_
        repeat infer_instance
        refine ⟨_, m - 1, rfl, by omega, is ++ [left.fmod (10 ^ 9)], _, by simp; omega, rfl, F.set (Nat.le_refl _) _, ?_⟩
        rw [set_at hq]; simp
      · exact k_next (rest s is left (by omega) F hq)
    · exact wp_f (k_next (rest s is left (by omega) F hq))
  · exact wp_f (k_next (rest s is left (by omega) F hq))
theorem atI_mod {xs : List D} {i : Int} (h : xs ≠ []) : ∃ d ∈ xs, L2.atI xs (i.fmod (xs.length : Nat)) = some d := by
 have hp : 0 < xs.length := List.length_pos_iff.mpr h
 have := fm (i := i) (j := (xs.length : Nat)) (by omega)
 generalize i.fmod (xs.length : Nat) = j at *
 obtain ⟨k, rfl⟩ : ∃ k : Nat, j = (k : Nat) := ⟨j.toNat, by omega⟩
 have hk : k < xs.length := by omega
 exact ⟨xs[k], List.getElem_mem hk, atI_get (by simp [hk])⟩
end
theorem fin_gen {NL : List NLk} {a : Nat} {P : Nat → Prop} (hP : ∀ h, P h → ∀ x ∈ ways NL h, P x.2) (ha : P a) : ∀ e ∈ ks (fin' NL a), P e := by
 have I := fin_ri NL a
 have all : ∀ (i e : Nat) (p : Option (Int × Nat)), (fin' NL a)[i]? = some (e, p) → P e := by
  intro i
  induction i using Nat.strongRecOn with
  | _ i ih =>
   intro e p h
   by_cases h0 : i = 0
   · subst h0
     rw [I.z] at h; cases h; exact ha
   · obtain ⟨m, h', j, q, _, hj, hq, hw⟩ := I.up i e p h h0
     exact hP h' (ih j hj h' q hq) _ hw
 intro e he
 obtain ⟨i, p, hi⟩ := ks_at he
 exact all i e p hi
abbrev rc (NL : List NLk) (a e : Nat) : Prop := e ∈ ks (fin' NL a)
theorem rc_refl {NL : List NLk} {a : Nat} : rc NL a a := at_ks (fin_ri NL a).z
theorem rc_trans {NL : List NLk} {a b c : Nat} (h1 : rc NL a b) (h2 : rc NL b c) : rc NL a c := fin_gen (P := fun e => rc NL a e) (fun h hh x hx => fin_clo hh x hx) h1 c h2
theorem ways_symm {NL : List NLk} {h e : Nat} {m : Int} (hw : (m, e) ∈ ways NL h) : (m, h) ∈ ways NL e := by
 obtain ⟨l, hl, h1, h2⟩ := mem_ways.mp hw
 exact mem_ways.mpr ⟨l, hl, h1, h2.elim (fun z => .inr ⟨z.2, z.1⟩) fun z => .inl ⟨z.2, z.1⟩⟩
theorem rc_symm {NL : List NLk} {a e : Nat} (h : rc NL a e) : rc NL e a :=
 fin_gen (P := fun e => rc NL e a) (fun h hh x hx => rc_trans (fin_clo rc_refl _ (ways_symm (m := x.1) (e := x.2) hx)) hh) rc_refl e h
section
variable {NL : List NLk} {f : D → Nat}
abbrev GT := List (Nat × D)
noncomputable def fstep (NL : List NLk) (f : D → Nat) (G : GT) (t : D) : GT := if f t ∈ G.map (·.1) then G else G ++ (ks (fin' NL (f t))).map fun n => (n, t)
noncomputable def pr (NL : List NLk) (f : D → Nat) (n : Nat) (t : D) : Bool := decide (rc NL (f t) n)
theorem look_mem : ∀ {G : GT} {n : Nat}, n ∈ G.map (·.1) ↔ (G.lookup n).isSome = true
 | [], n => by simp
 | (x, y) :: r, n => by
  have ih := look_mem (G := r) (n := n)
  by_cases h : n = x
  · subst h; simp
  · have h2 : (n == x) = false := by simpa using h
    simp only [List.map_cons, List.mem_cons, List.lookup, h2]
    rw [← ih]
    simp [h]
theorem look_append : ∀ {G H : GT} {n : Nat}, (G ++ H).lookup n = (G.lookup n).or (H.lookup n)
 | [], H, n => by simp
 | (x, y) :: r, H, n => by
  have ih := look_append (G := r) (H := H) (n := n)
  by_cases h : n = x
  · subst h; simp
  · have h2 : (n == x) = false := by simpa using h
    simp only [List.cons_append, List.lookup, h2]
    exact ih
theorem look_map {t : D} : ∀ {l : List Nat} {n : Nat}, (l.map fun x => (x, t)).lookup n = if n ∈ l then some t else none
 | [], n => by simp
 | x :: r, n => by
  have ih := look_map (t := t) (l := r) (n := n)
  by_cases h : n = x
  · subst h; simp
  · have h2 : (n == x) = false := by simpa using h
    simp only [List.map_cons, List.lookup, h2, ih, List.mem_cons, h, false_or]
structure FI (NL : List NLk) (f : D → Nat) (Us : List D) (G : GT) : Prop where
 nd : (G.map (·.1)).Nodup
 lk : ∀ n, G.lookup n = Us.find? (pr NL f n)
theorem FI.nil : FI NL f [] [] := ⟨by simp, fun n => by simp⟩
theorem FI.fresh {Us : List D} {G : GT} {t : D} (h : FI NL f Us G) (hn : f t ∉ G.map (·.1)) : ∀ n ∈ ks (fin' NL (f t)), n ∉ G.map (·.1) := by
 intro n hm hin
 have := look_mem.mp hin
 rw [h.lk n] at this
 obtain ⟨t0, ht0⟩ := Option.isSome_iff_exists.mp this
 have h0 := List.find?_some ht0
 have h0 : rc NL (f t0) n := of_decide_eq_true h0
 have hm : rc NL (f t) n := hm
 refine hn (look_mem.mpr ?_)
 rw [h.lk, List.find?_isSome]
 exact ⟨t0, List.mem_of_find?_eq_some ht0, decide_eq_true (rc_trans h0 (rc_symm hm))⟩
theorem FI.step {Us : List D} {G : GT} {t : D} (h : FI NL f Us G) : FI NL f (Us ++ [t]) (fstep NL f G t) := by
 unfold fstep
 split
 · rename_i hin
   refine ⟨h.nd, fun n => ?_⟩
   rw [h.lk n, List.find?_append]
   cases e : Us.find? (pr NL f n) with
   | some x => rfl
   | none =>
    have hp : pr NL f n t = false := by
     refine decide_eq_false fun hr => ?_
     have := look_mem.mp hin
     rw [h.lk (f t)] at this
     obtain ⟨t0, ht0⟩ := Option.isSome_iff_exists.mp this
     have h0 := List.find?_some ht0
     have h0 : rc NL (f t0) (f t) := of_decide_eq_true h0
     have := List.find?_eq_none.mp e t0 (List.mem_of_find?_eq_some ht0)
     exact this (decide_eq_true (rc_trans h0 hr))
    simp [hp]
 · rename_i hn
   refine ⟨?_, fun n => ?_⟩
   · rw [List.map_append, List.nodup_append]
     have e : ((ks (fin' NL (f t))).map fun n => (n, t)).map (·.1) = ks (fin' NL (f t)) := by simp [Function.comp_def]
     rw [e]
     exact ⟨h.nd, (fin_ri NL (f t)).nd, fun x hx y hy z => h.fresh hn y hy (z ▸ hx)⟩
   · rw [look_append, h.lk n, List.find?_append, look_map]
     have : ([t] : List D).find? (pr NL f n) = if n ∈ ks (fin' NL (f t)) then some t else none := by
      by_cases hh : n ∈ ks (fin' NL (f t))
      · simp [pr, hh]
      · simp [pr, hh]
     rw [this]
noncomputable def firstG (NL : List NLk) (f : D → Nat) (Us : List D) : GT := Us.foldl (fstep NL f) []
theorem firstG_snoc (Us : List D) (t : D) : firstG NL f (Us ++ [t]) = fstep NL f (firstG NL f Us) t := by simp [firstG]
theorem firstG_ok : ∀ (k : Nat) (Us : List D), Us.length = k → FI NL f Us (firstG NL f Us)
 | 0, Us, h => by
  have : Us = [] := List.length_eq_zero_iff.mp h
  subst this
  exact FI.nil
 | k + 1, Us, h => by
  have hne : Us ≠ [] := fun z => by subst z; cases h
  have e : Us = Us.dropLast ++ [Us.getLast hne] := (List.dropLast_concat_getLast hne).symm
  rw [e, firstG_snoc]
  exact (firstG_ok k Us.dropLast (by simp; omega)).step
end
theorem find_congr {p q : D → Bool} : ∀ {l : List D}, (∀ x ∈ l, p x = q x) → l.find? p = l.find? q
 | [], _ => rfl
 | x :: r, h => by
  rw [List.find?_cons, List.find?_cons, h x (by simp), find_congr fun y hy => h y (by simp [hy])]
noncomputable def VF (L : List Lk) (Ts : List D) (t : D) : D := (Ts.find? fun x => decide (x ∈ lawR L t)).getD .non
theorem vf_of {L : List Lk} {f : D → Nat} {S : D → Prop} (inj : ∀ x y, S x → S y → f x = f y → x = y) (hS : ∀ l ∈ L, S l.2.1 ∧ S l.2.2) {Ts : List D} (hT : ∀ t ∈ Ts, S t) {t : D} (ht : t ∈ Ts) :
    (firstG (nl f L) f Ts).lookup (f t) = some (VF L Ts t) ∧ VF L Ts t ∈ Ts := by
  have h := (firstG_ok (NL := nl f L) (f := f) Ts.length Ts rfl).lk (f t)
  have e : Ts.find? (pr (nl f L) f (f t)) = Ts.find? fun x => decide (x ∈ lawR L t) := by
    refine find_congr fun x hx => decide_eq_decide.mpr ⟨fun z => ?_, fun z => ?_⟩
    · obtain ⟨i, p, hi⟩ := ks_at (rc_symm z)
      exact in_lawR inj hS (hT t ht) (fin_ri _ _) i x p (hT x hx) hi
    · exact rc_symm (lawR_in x z)
  rw [e] at h
  obtain ⟨y, hy⟩ : ∃ y, Ts.find? (fun x => decide (x ∈ lawR L t)) = some y := Option.isSome_iff_exists.mp (List.find?_isSome.mpr ⟨t, ht, decide_eq_true lawR_self⟩)
  unfold VF
  rw [hy] at h ⊢
  exact ⟨h, List.mem_of_find?_eq_some hy⟩
theorem vf_head {L : List Lk} {Ts : List D} {t : D} : ∀ {Us : List D}, (Us.filterMap fun x => if decide (x ∈ lawR L t) = true then some x else none)[0]? = Us.find? fun x => decide (x ∈ lawR L t)
 | [] => rfl
 | x :: r => by
  by_cases h : x ∈ lawR L t
  · simp [h]
  · rw [List.filterMap_cons, List.find?_cons]
    simp only [h, decide_false, Bool.false_eq_true, if_false]
    exact vf_head (Ts := Ts)
theorem fold_same {m : Nat} {T : List D} (h : ∀ x, x ∈ T → Tm m x → grow m T x = T) : ∀ l : List D, (∀ x ∈ l, x ∈ T ∧ Tm m x) → l.foldl (grow m) T = T
 | [], _ => rfl
 | x :: r, hl => by
  rw [List.foldl_cons, h x (hl x (by simp)).1 (hl x (by simp)).2]
  exact fold_same h r fun y hy => hl y (by simp [hy])
theorem grow_same : ∀ (m : Nat) {T : List D} {d : D}, Good T → d ∈ T → Tm m d → grow m T d = T
 | 0, T, d, _, _, h => h.elim
 | m + 1, T, d, G, hd, h => by
  have e : (inn d).foldl (grow m) T = T := fold_same (fun x hx ht => grow_same m G hx ht) (inn d) fun x hx => ⟨G.sub d hd x hx, h.2 x hx⟩
  show insN ((inn d).foldl (grow m) T) d = T
  rw [e]
  unfold insN
  rw [if_pos hd]
theorem merge_new : ∀ {more l : List (D × D)}, (more.map (·.1)).Nodup → (∀ x ∈ more.map (·.1), dLook l x = none) → dMerge l more = l ++ more
 | [], l, _, _ => by simp [dMerge]
 | (k, v) :: r, l, hn, hl => by
  rw [List.map_cons, List.nodup_cons] at hn
  have h0 := hl k (by simp)
  show dMerge (dPut l k v) r = _
  rw [put_new' h0, merge_new hn.2 fun x hx => ?_]
  · simp
  · rw [dLook_app, hl x (by simp; exact .inr (by simpa using hx))]
    have : k ≠ x := fun z => hn.1 (z ▸ hx)
    simp [this]
theorem put_keys (l : List (D × D)) (k v : D) : (dPut l k v).map (·.1) = if k ∈ l.map (·.1) then l.map (·.1) else l.map (·.1) ++ [k] := by
 unfold dPut
 have hany : (l.any fun p => decide (p.1 = k)) = true ↔ k ∈ l.map (·.1) := by
  rw [List.any_eq_true, List.mem_map]
  exact ⟨fun ⟨p, h1, h2⟩ => ⟨p, h1, of_decide_eq_true h2⟩, fun ⟨p, h1, h2⟩ => ⟨p, h1, decide_eq_true h2⟩⟩
 by_cases h : k ∈ l.map (·.1)
 · rw [if_pos (hany.mpr h), if_pos h, List.map_map]
   refine List.map_congr_left fun p _ => ?_
   show (if p.1 = k then (p.1, v) else p).1 = p.1
   split <;> rfl
 · rw [if_neg fun z => h (hany.mp z), if_neg h]
   simp
theorem merge_nodup : ∀ (more l : List (D × D)), (l.map (·.1)).Nodup → ((dMerge l more).map (·.1)).Nodup
 | [], l, h => h
 | (k, v) :: r, l, h => by
  refine merge_nodup r (dPut l k v) ?_
  rw [put_keys]
  split
  · exact h
  · rename_i hk
    rw [List.nodup_append]
    exact ⟨h, by simp, fun x hx y hy z => hk (by rw [← List.mem_singleton.mp hy, ← z]; exact hx)⟩
theorem put_mem {l : List (D × D)} {k v : D} {p : D × D} (h : p ∈ dPut l k v) : p ∈ l ∨ p = (k, v) := by
 unfold dPut at h
 split at h
 · obtain ⟨q, hq, e⟩ := List.mem_map.mp h
   split at e
   · rename_i z; rw [← e, z]; exact .inr rfl
   · rw [← e]; exact .inl hq
 · rcases List.mem_append.mp h with z | z
   · exact .inl z
   · exact .inr (List.mem_singleton.mp z)
theorem merge_mem : ∀ {more l : List (D × D)} {p : D × D}, p ∈ dMerge l more → p ∈ l ∨ p ∈ more
 | [], l, p, h => .inl h
 | (k, v) :: r, l, p, h => by
  rcases merge_mem (more := r) (l := dPut l k v) h with z | z
  · rcases put_mem z with z | z
    · exact .inl z
    · exact .inr (by simp [z])
  · exact .inr (by simp [z])
theorem look_of_mem : ∀ {l : List (D × D)} {p : D × D}, (l.map (·.1)).Nodup → p ∈ l → dLook l p.1 = some p.2
 | q :: r, p, hn, h => by
  rw [List.map_cons, List.nodup_cons] at hn
  unfold dLook
  rcases List.mem_cons.mp h with rfl | h
  · simp
  · have hne : q.1 ≠ p.1 := fun z => hn.1 (z ▸ List.mem_map.mpr ⟨p, h, rfl⟩)
    rw [List.find?_cons_of_neg (by simpa using hne)]
    exact look_of_mem hn.2 h
theorem put_len (l : List (D × D)) (k v : D) : (dPut l k v).length ≤ l.length + 1 := by unfold dPut; split <;> simp
theorem merge_len : ∀ (more l : List (D × D)), (dMerge l more).length ≤ l.length + more.length
 | [], l => by simp [dMerge]
 | (k, v) :: r, l => by
  have h1 := put_len l k v
  have h2 := merge_len r (dPut l k v)
  show (dMerge (dPut l k v) r).length ≤ _
  simp; omega
theorem hits_self {st : Sto} {kb : List (D × D)} (hn : (kb.map (·.1)).Nodup) (ho : ∀ p ∈ kb, okN 40 p.2 = true) : ∀ {ka : List (D × D)}, (∀ p ∈ ka, p ∈ kb) → hitsN st kb ka = some true
 | [], _ => rfl
 | (k, v) :: r, h => by
  have h0 := h (k, v) (by simp)
  have hv := ho _ h0
  have e1 : DD.eqV st v v = some true := by simp only [DD.eqV, py_ok hv (Nat.le_refl _), eqv_ok hv hv, decide_true]
  simp only [hitsN, look_of_mem hn h0, e1, Option.bind_some, hits_self hn ho (ka := r) fun p hp => h p (by simp [hp]), Option.map_some, Bool.and_self]
section
variable {FF n k m : Nat} {st : Sto}
theorem r_frzD {q : Nat} {kvs : List (D × D)} {Q : D → Sto → Prop} (h : st[q]? = some (.dct kvs)) (hq : Q (.loc q) (st.set q (.dcf kvs))) : Wr (mtD .frzD (.loc q) [] st) Q := ⟨_, _, by simp only [mtD, dctOf, h], hq⟩
theorem r_ixDct {q : Nat} {kvs : List (D × D)} {k d : D} {Q : D → Sto → Prop} (h : st[q]? = some (.dct kvs)) (hk : keyD k = true) (e : dLook kvs k = some d) (hq : Q d st) : Wr (ixD (.loc q) k st) Q := r_ixD h hk e hq
section
variable {t : Nat → Ty → Option Bool} {call : DD.Or} {F : Nat} {env : DD.Env} {Q : D → Sto → Prop}
theorem dcompN_inv {all : List D} {p : Option Nat} {n0 : Nat} {body : D → Sto → Res (Option (D × D))} {f : D → Option (D × D)} {J : Sto → Prop} (hs : ∀ st, J st → stays st p all = true) (hset : ∀ st kvs, J st → J (st.set n0 (.dcn kvs))) :
    ∀ (xs : List D) (kvs : List (D × D)) (st : Sto), J st → st[n0]? = some (.dcn kvs) → kvs.length + xs.length ≤ sizeLine → (∀ d ∈ xs, ∀ k y, f d = some (k, y) → keyN k = true) →
    (∀ d ∈ xs, ∀ st kvs, J st → st[n0]? = some (.dcn kvs) → ∃ st', body d st = .ok (f d) st' ∧ J st' ∧ st'[n0]? = some (.dcn kvs)) →
    ∃ st', dcompLoopN all p n0 body xs st = .ok () st' ∧ J st' ∧ st'[n0]? = some (.dcn (dMerge kvs (xs.filterMap f)))
  | [], kvs, st, h, hy, _, _, _ => ⟨st, by simp only [dcompLoopN]; rw [if_pos (hs _ h)], h, by simpa [dMerge] using hy⟩
  | d :: r, kvs, st, h, hy, hl, hk, hb => by
    obtain ⟨s1, e1, j1, y1⟩ := hb d List.mem_cons_self st kvs h hy
    simp only [dcompLoopN]
    rw [if_pos (hs _ h), e1]
    have hl2 : kvs.length < sizeLine := by simp at hl; omega
    cases hf : f d with
    | none =>
      obtain ⟨s2, e2, j2, y2⟩ := dcompN_inv hs hset r kvs s1 j1 y1 (by simp at hl ⊢; omega) (fun x hx => hk x (List.mem_cons_of_mem _ hx)) fun x hx => hb x (List.mem_cons_of_mem _ hx)
      exact ⟨s2, e2, j2, by rw [List.filterMap_cons, hf]; exact y2⟩
    | some kv =>
      obtain ⟨k, y⟩ := kv
      have hlen := put_len kvs k y
      obtain ⟨s2, e2, j2, y2⟩ := dcompN_inv hs hset r (dPut kvs k y) (s1.set n0 (.dcn (dPut kvs k y))) (hset _ _ j1) (set_at y1 _) (by simp at hl ⊢; omega) (fun x hx => hk x (List.mem_cons_of_mem _ hx)) fun x hx => hb x (List.mem_cons_of_mem _ hx)
      refine ⟨s2, ?_, j2, by rw [List.filterMap_cons, hf]; simpa [dMerge] using y2⟩
      simp only [y1, hl2, hk d List.mem_cons_self k y hf, and_self, if_true]
      exact e2
theorem w_dcompN {k nl : Nat} {one : Bool} {tg fv : List Nat} {it kx vx : E} {ifs : Es}
    (h : Wr (evalE t call it env st) fun d s => ∃ xs p, ∃ f : D → Option (D × D), itOf k s d = some (xs, p) ∧ xs.length ≤ sizeLine ∧ (∀ d ∈ xs, ∀ k y, f d = some (k, y) → keyN k = true) ∧ (∀ s', Fr s s' → stays s' p xs = true) ∧
      (∀ d ∈ xs, ∀ s', Fr s s' → Wr (turnD t call tg one (envIn nl fv env) ifs kx vx d s') fun r s2 => r = f d ∧ Fr s' s2) ∧
      ∀ s', Fr s s' → s'[s.length]? = some (.dcn (dMerge [] (xs.filterMap f))) → Q (.loc s.length) s') : Wr (evalE t call (.dcompN k one nl tg fv it ifs kx vx) env st) Q := by
  obtain ⟨d, s, e, xs, p, f, hi, hl, hk, hs, hb, q⟩ := h
  rw [evalE, e]
  simp only [bind_ok, hi]
  obtain ⟨s', e2, F, y⟩ := dcompN_inv (all := xs) (p := p) (n0 := s.length) (body := turnD t call tg one (envIn nl fv env) ifs kx vx) (f := f) (J := Fr s) hs (fun s2 ys h => h.set (Nat.le_refl _) _) xs [] (s ++ [.dcn []]) (.app _) (by simp) (by simpa using hl) hk (fun d hd s2 ys hJ hn => by
    obtain ⟨r, s3, e3, rfl, F3⟩ := hb d hd s2 hJ
    exact ⟨s3, e3, hJ.trans F3, F3.at hn⟩)
  show Wr ((dcompLoopN xs p s.length (turnD t call tg one (envIn nl fv env) ifs kx vx) xs (s ++ [.dcn []])).bind fun _ st' => .ok (.loc s.length) st') Q
  rw [e2]
  exact wr_ok (q s' F y)
end
theorem num_same {s a b : Nat} {t : Sto} {d : D} {T : List D} (hd : Tm 4 d) (N : Nb t s a b T) (G : Good T) (hin : d ∈ T) (hz : T.length ≤ 1000000) : Wr (C FF (n + 5) 3 [.loc s, d] t) fun r t' => r = .int (T.idxOf d : Nat) ∧ Nb t' s a b T ∧ Fr t t' := by
 refine (num_call (n := n) hd N G hz).imp ?_
 rintro r t' ⟨h1, h2, h3⟩
 rw [grow_same 4 G hin hd] at h1 h2
 refine ⟨h1, h2, fun j hj => ?_⟩
 by_cases ja : j = a
 · subst ja; rw [h2.t, N.t]
 · by_cases jb : j = b
   · subst jb; rw [h2.d, N.d]
   · exact h3.2 j hj ja jb
noncomputable def encG (G : GT) : List (D × D) := G.map fun x => (.int (x.1 : Nat), x.2)
theorem look_encG : ∀ (G : GT) (n : Nat), dLook (encG G) (.int (n : Nat)) = G.lookup n
 | [], n => rfl
 | (x, y) :: r, n => by
  have ih := look_encG r n
  unfold dLook encG at ih ⊢
  rw [List.map_cons, List.find?_cons]
  by_cases h : x = n
  · subst h; simp
  · have h1 : ¬ (D.int (x : Nat) = D.int (n : Nat)) := fun z => h (by cases z; rfl)
    have h2 : (n == x) = false := by simpa using Ne.symm h
    simp only [decide_eq_false h1, List.lookup, h2]
    exact ih
theorem nodup_ints {l : List Nat} (h : l.Nodup) : (l.map fun n => D.int (n : Nat)).Nodup := List.Pairwise.map _ (fun a b hne e => hne (by injection e with e; omega)) h
theorem merge_encG {G : GT} {t : D} {l : List Nat} (hn : l.Nodup) (hf : ∀ n ∈ l, n ∉ G.map (·.1)) : dMerge (encG G) (l.map fun n => (D.int (n : Nat), t)) = encG (G ++ l.map fun n => (n, t)) := by
 have e : (l.map fun n => (D.int (n : Nat), t)).map (·.1) = l.map fun n => D.int (n : Nat) := by simp [Function.comp_def]
 rw [merge_new (by rw [e]; exact nodup_ints hn) (by
  rw [e]
  intro x hx
  obtain ⟨n, hm, rfl⟩ := List.mem_map.mp hx
  rw [look_encG]
  cases z : G.lookup n with
  | none => rfl
  | some d => exact absurd (look_mem.mpr (by rw [z]; rfl)) (hf n hm))]
 simp [encG]
theorem merge_nil {t : D} {l : List Nat} (hn : l.Nodup) : dMerge [] (l.map fun n => (D.int (n : Nat), t)) = l.map fun n => (D.int (n : Nat), t) := by
 have e : (l.map fun n => (D.int (n : Nat), t)).map (·.1) = l.map fun n => D.int (n : Nat) := by simp [Function.comp_def]
 rw [merge_new (by rw [e]; exact nodup_ints hn) (by intro x hx; rfl)]
 simp
noncomputable def TC (L : List Lk) (Us : List D) : List D := Us.foldl (grow 4) (TL L)
theorem TC_snoc (L : List Lk) (Us : List D) (t : D) : TC L (Us ++ [t]) = grow 4 (TC L Us) t := by simp [TC]
theorem TC_pre (L : List Lk) (Us Vs : List D) : TC L Us <+: TC L (Us ++ Vs) := by
 unfold TC
 rw [List.foldl_append]
 exact fold_pre (grow_pre 4) _ _
theorem TC_ok {L : List Lk} (ok : Ok4 L) {Us : List D} (hU : ∀ t ∈ Us, Tm 4 t) (hz : L.length ≤ 100) : Good (TC L Us) ∧ (TC L Us).length ≤ 8000 + Us.length * 40 ∧ (∀ l ∈ L, l.2.1 ∈ TC L Us ∧ l.2.2 ∈ TC L Us) ∧ ∀ t ∈ Us, t ∈ TC L Us := by
 obtain ⟨g1, g2, g3⟩ := TL_ok L.length L rfl ok
 rw [B4] at g2
 have h1 := fold_good (grow_good 4) Us (TL L) g1 hU
 have h2 := fold_len (grow_len 4) Us (TL L) hU
 rw [B4] at h2
 have pre : TL L <+: TC L Us := fold_pre (grow_pre 4) _ _
 exact ⟨h1, by unfold TC; omega, fun l hl => ⟨pre.subset (g3 l hl).1, pre.subset (g3 l hl).2⟩, fold_has Us (TL L) hU⟩
def FrE (ex : List Nat) (s s' : Sto) : Prop := s.length ≤ s'.length ∧ ∀ j, j < s.length → j ∉ ex → s'[j]? = s[j]?
theorem FrE.trans {ex : List Nat} {a b c : Sto} (h : FrE ex a b) (k : FrE ex b c) : FrE ex a c := ⟨Nat.le_trans h.1 k.1, fun j h1 h2 => (k.2 j (Nat.lt_of_lt_of_le h1 h.1) h2).trans (h.2 j h1 h2)⟩
theorem FrE.of {ex : List Nat} {s s' : Sto} (h : Fr s s') : FrE ex s s' := ⟨h.len, fun j h1 _ => h j h1⟩
theorem FrE.ofX {a b c : Nat} {s s' : Sto} (h : FrX s.length a b s s') : FrE [a, b, c] s s' := ⟨h.1, fun j h1 h2 => h.2 j h1 (fun z => h2 (by simp [z])) fun z => h2 (by simp [z])⟩
theorem FrE.set {ex : List Nat} {s s' : Sto} (h : FrE ex s s') {q : Nat} (hq : q ∈ ex) (c : Cell) : FrE ex s (s'.set q c) := ⟨by simpa using h.1, fun j h1 h2 => by rw [List.getElem?_set_ne (fun z : q = j => h2 (z ▸ hq))]; exact h.2 j h1 h2⟩
theorem FrE.at {ex : List Nat} {s s' : Sto} (h : FrE ex s s') {j : Nat} {c : Cell} (e : s[j]? = some c) (hj : j ∉ ex) : s'[j]? = some c := by rw [h.2 j (List.getElem?_eq_some_iff.mp e).1 hj]; exact e
theorem WO.fre {base w z : Nat} {ex : List Nat} {W : Nat → List (Int × Nat)} {s s' : Sto} (h : WO base s w W z) (hw : w ∉ ex) (hex : ∀ c ∈ ex, c < base ∨ s.length ≤ c) (F : FrE ex s s') : WO base s' w W z := by
 obtain ⟨kvs, h1, h2, h3, h4⟩ := h.dct
 refine ⟨kvs, F.at h1 hw, h2, fun n => ?_, h4⟩
 have := h3 n
 split at this
 · obtain ⟨c, q1, q2, q3, q4⟩ := this
   refine ⟨c, q1, q2, q3, F.at q4 fun z => ?_⟩
   have := (List.getElem?_eq_some_iff.mp q4).1
   rcases hex c z with y | y <;> omega
 · exact this
theorem w_mt0 {t : Nat → Ty → Option Bool} {call : DD.Or} {env : DD.Env} {m : Mt} {o : E} {Q : D → Sto → Prop} (h : Wr (evalE t call o env st) fun x s => rdy m s x = true ∧ Wr (mtD m x [] s) Q) : Wr (evalE t call (.mt m o .nil) env st) Q := w_mt (h.imp fun x s h => ⟨h.1, w_nil h.2⟩)
theorem classes_ok {tl l : Nat} {L : List Lk} {Ts : List D} (ht : lstOf st tl = some Ts) (hl : lstOf st l = some (L.map enc)) (ok : Ok4 L) (hT : ∀ t ∈ Ts, Tm 4 t) (hz : L.length ≤ 50) (hTz : Ts.length ≤ 50) (hF : 200 < FF) :
    Wr (C FF (n + 7) 7 [.loc tl, .loc l] st) fun d s => ∃ q, d = .loc q ∧ st.length ≤ q ∧ Fr st s ∧ s[q]? = some (.dcn (dMerge [] (Ts.map fun t => (t, VF L Ts t)))) := by
  refine w_fn [some (.loc tl), some (.loc l), none, none, none, none] (b := c_classes) rfl rfl (by decide) rfl ?_
  unfold c_classes
  refine ws_cons (ws_set (w_mk (w_nil (wr_of init_ok ⟨rfl, of_decide_eq_true rfl, ?_⟩))))
  generalize ht0 : st ++ [Cell.ins 0 (fsN (st.length + 1) (st.length + 2)), .lst [], .dcn []] = t0
  have F0 : Fr st t0 := by rw [← ht0]; exact .app _
  have l0 : t0.length = st.length + 3 := by rw [← ht0]; simp
  have N0 : Nb t0 st.length (st.length + 1) (st.length + 2) [] := by
    rw [← ht0]
    exact ⟨ge0, ge1, ge2⟩
  have lt_of : ∀ {x : Nat} {xs : List D}, lstOf st x = some xs → x < st.length := fun {x xs} h => by
    unfold lstOf at h
    cases z : st[x]? with
    | none => rw [z] at h; cases h
    | some c => exact (List.getElem?_eq_some_iff.mp z).1
  have lsl := lt_of hl
  have ltl := lt_of ht
  refine k_next (ws_cons (ws_set (w_call (w_cons (w_var rfl (w_cons (w_var rfl (w_nil ((ways_of (n := n) N0 (F0.lst hl) ok (by omega) (by omega) (by omega)).imp ?_)))))))))
  rintro _ t1 ⟨w, rfl, N1, F1, base, hb1, hb2, hW⟩
  refine ⟨of_decide_eq_true rfl, ?_⟩
  refine k_next (ws_cons (ws_set (w_dnew ⟨of_decide_eq_true rfl, ?_⟩)))
  generalize hA : st.length + 1 = A at *
  generalize hB : st.length + 2 = B' at *
  have Fs1 : Fr st t1 := fun j hj => by rw [F1.2 j (by omega) (by omega) (by omega)]; exact F0 j hj
  have l1 := F1.1
  generalize hNL : nl (fun x => (TL L).idxOf x) L = NL at *
  have nll : NL.length = L.length := by rw [← hNL]; simp [nl]
  generalize htq : t1 ++ [Cell.dct []] = tq
  have Fq : Fr t1 tq := by rw [← htq]; exact .app _
  have lq : tq.length = t1.length + 1 := by rw [← htq]; simp
  have hq : tq[t1.length]? = some (.dct []) := by rw [← htq]; exact gg0.trans rfl
  have hlw : w < t1.length := by obtain ⟨kvs, h1, _⟩ := hW.dct; exact (List.getElem?_eq_some_iff.mp h1).1
  have Nq : Nb tq st.length A B' (TC L []) := ⟨Fq.at N1.i, Fq.at N1.t, Fq.at N1.d⟩
  have hWq := hW.mono Fq
  have htsq : lstOf tq tl = some Ts := (Fs1.trans Fq).lst ht
  generalize hqq : t1.length = q at *
  generalize hS : st.length = S at *
  let f : D → Nat := fun x => (TC L Ts).idxOf x
  have hf : ∀ i ≤ Ts.length, ∀ x ∈ TC L (Ts.take i), (TC L (Ts.take i)).idxOf x = f x := fun i hi x hx => by
    have := TC_pre L (Ts.take i) (Ts.drop i)
    rw [List.take_append_drop] at this
    exact (idx_pre this hx).symm
  have hNLf : NL = nl f L := by
    rw [← hNL]
    obtain ⟨_, _, g3⟩ := TL_ok L.length L rfl ok
    have pre : TL L <+: TC L Ts := fold_pre (grow_pre 4) _ _
    exact (nl_pre pre g3).symm
  have hex : ∀ c ∈ [A, B', q], c < base ∨ t1.length ≤ c := fun c hc => by
    simp at hc
    rw [hqq]
    omega
  have hwex : w ∉ [A, B', q] := fun z => by
    simp at z
    omega
  have keep : ∀ {s : Sto} {j : Nat}, FrE [A, B', q] t1 s → j < S → s[j]? = t1[j]? := fun {s j} F hj => F.2 j (by omega) (by simp; omega)
  have hts : ∀ {s : Sto}, FrE [A, B', q] t1 s → lstOf s tl = some Ts := fun {s} F => by
    have := Fs1.lst ht
    unfold lstOf at this ⊢
    rw [keep F ltl]
    exact this
  have hgood : ∀ i, Good (TC L (Ts.take i)) ∧ (TC L (Ts.take i)).length ≤ 8000 + (Ts.take i).length * 40 ∧ (∀ l ∈ L, l.2.1 ∈ TC L (Ts.take i) ∧ l.2.2 ∈ TC L (Ts.take i)) ∧ ∀ t ∈ Ts.take i, t ∈ TC L (Ts.take i) := fun i => TC_ok ok (fun t h => hT t (List.mem_of_mem_take h)) (by omega)
  refine k_next (ws_cons (ws_for (w_var rfl ⟨Ts, some tl, ?_, ?_⟩)))
  · simp only [walkOf, Bool.false_eq_true, if_false, htsq]; rfl
  refine w_loop (fun i env s => (∃ x, env = [some (.loc tl), some (.loc l), some (.loc S), some (.loc w), some (.loc q), x]) ∧ FrE [A, B', q] t1 s ∧ Nb s S A B' (TC L (Ts.take i)) ∧ s[q]? = some (.dct (encG (firstG NL f (Ts.take i))))) (fun i env s h => decide_eq_true (hts h.2.1)) ⟨⟨none, rfl⟩, .of Fq, Nq, hq⟩ ?_ ?_
  · rintro j t htj env s ⟨⟨x, rfl⟩, F, N, hqs⟩
    have hj := (List.getElem?_eq_some_iff.mp htj).1
    have htm := hT t (List.mem_of_getElem? htj)
    obtain ⟨G1, g2, g3, g4⟩ := hgood j
    have hlt : (Ts.take j).length ≤ 50 := by rw [List.length_take]; omega
    have eT : TC L (Ts.take (j + 1)) = grow 4 (TC L (Ts.take j)) t := by rw [List.take_add_one, htj, Option.toList_some, TC_snoc]
    obtain ⟨G1', g2', _, g4'⟩ := hgood (j + 1)
    have htin : t ∈ TC L (Ts.take (j + 1)) := by rw [eT]; exact grow_self
    have hft := hf (j + 1) hj t htin
    have FIj := firstG_ok (NL := NL) (f := f) (Ts.take j).length (Ts.take j) rfl
    have eF : firstG NL f (Ts.take (j + 1)) = fstep NL f (firstG NL f (Ts.take j)) t := by rw [List.take_add_one, htj, Option.toList_some, firstG_snoc]
    have hGl : (firstG NL f (Ts.take j)).length ≤ 16000 := by
      have : ∀ (Us : List D), (firstG NL f Us).length ≤ Us.length * 200 := by
        have step : ∀ (Us : List D) (G : GT), (Us.foldl (fstep NL f) G).length ≤ G.length + Us.length * 200 := by
          intro Us
          induction Us with
          | nil => intro G; simp
          | cons u r ih =>
            intro G
            have h1 := ih (fstep NL f G u)
            have h2 : (fstep NL f G u).length ≤ G.length + 200 := by
              unfold fstep
              split
              · omega
              · have := (fin_ri NL (f u)).len
                simp [ks]; omega
            rw [List.foldl_cons, List.length_cons, Nat.add_mul]
            omega
        intro Us
        have := step Us []
        simpa [firstG] using this
      have := this (Ts.take j)
      omega
    refine w_turn (env' := [some (.loc tl), some (.loc l), some (.loc S), some (.loc w), some (.loc q), some t]) rfl ?_
    refine ws_cons (ws_if (wt_cm (w_meth (w_var rfl ⟨S, _, rfl, N.i, fsN_m, w_cons (w_var rfl (w_nil ((num_call (n := n + 1) htm N G1 (by omega)).imp ?_)))⟩))))
    rintro _ s1 ⟨rfl, N1', F1'⟩
    rw [← eT] at N1' ⊢
    rw [hft]
    have hql := (List.getElem?_eq_some_iff.mp hqs).1
    have hq1 : s1[q]? = some (.dct (encG (firstG NL f (Ts.take j)))) := by rw [F1'.2 q hql (by omega) (by omega)]; exact hqs
    have Fa : FrE [A, B', q] t1 s1 := F.trans (.ofX F1')
    rw [eF]
    refine w_var rfl (r_notInDct hq1 rfl ⟨_, rfl, fun g => ?_, fun g => ?_⟩)
    · rw [look_encG] at g
      have hnot : f t ∉ (firstG NL f (Ts.take j)).map (·.1) := fun z => by
        rw [look_mem.mp z] at g; cases g
      have hstep : fstep NL f (firstG NL f (Ts.take j)) t = firstG NL f (Ts.take j) ++ (ks (fin' NL (f t))).map fun n => (n, t) := by unfold fstep; rw [if_neg hnot]
      rw [hstep, ← merge_encG (fin_ri NL (f t)).nd (FIj.fresh hnot)]
      have hRl := (fin_ri NL (f t)).len
      generalize firstG NL f (Ts.take j) = G at *
      refine ws_cons (ws_ex (w_mt (w_var rfl ⟨rdy_dct hq1, w_cons (w_dcomp (w_mt0 (w_call (w_cons (w_var rfl (w_cons (w_meth (w_var rfl ⟨S, _, rfl, N1'.i, fsN_m, w_cons (w_var rfl (w_nil ((num_same (n := n + 1) htm N1' G1' htin (by have : (Ts.take (j + 1)).length ≤ 50 := by { rw [List.length_take]; omega }; omega)).imp ?_)))⟩))))))))⟩)))
      rintro _ s2 ⟨rfl, N2, F2⟩
      rw [hft]
      have Fb : FrE [A, B', q] t1 s2 := Fa.trans (.of F2)
      refine w_nil ((reached_from (n := n + 5) (a := f t) (hW.fre hwex hex Fb) (by omega) (by omega)).imp ?_)
      rintro _ s3 ⟨r, rfl, hr0, F3, hr⟩
      refine ⟨rdy_dct hr, r_frzD hr ?_⟩
      have hrl := (List.getElem?_eq_some_iff.mp hr).1
      have ec : (s3.set r (.dcf (encR (fin' NL (f t)))))[r]? = some (.dcf (encR (fin' NL (f t)))) := by simp [hrl]
      have F24 : Fr s2 (s3.set r (.dcf (encR (fin' NL (f t))))) := F3.set hr0 _
      have exs : (encR (fin' NL (f t))).map (·.1) = (ks (fin' NL (f t))).map fun n => D.int (n : Nat) := by simp [encR, ks]
      have hkl : (ks (fin' NL (f t))).length ≤ 1000 := by simp [ks]; omega
      have hnd := (fin_ri NL (f t)).nd
      generalize (s3.set r (.dcf (encR (fin' NL (f t))))) = s4 at *
      refine ⟨(ks (fin' NL (f t))).map fun n => D.int (n : Nat), none, fun d => some (d, t), ?_, szl _ (by simp; omega), ?_, fun _ _ => rfl, ?_, ?_⟩
      · simp only [itOf, ec, exs]
      · intro d hd k y e
        obtain ⟨z, _, rfl⟩ := List.mem_map.mp hd
        cases e; rfl
      · intro d hd s5 F5
        exact w_turnD (env' := [some d, some t]) rfl (wi_nil (wp_t (w_var rfl (w_var rfl ⟨rfl, .refl _⟩))))
      · intro s5 F5 h5
        have em : ((ks (fin' NL (f t))).map fun n => D.int (n : Nat)).filterMap (fun d => some (d, t)) = (ks (fin' NL (f t))).map fun n => (D.int (n : Nat), t) := by rw [fm_some, List.map_map]; rfl
        rw [em, merge_nil hnd] at h5
        have F25 := F24.trans F5
        have hq2 := F2.at hq1
        have hq5 := F25.at hq2
        have hq2l := (List.getElem?_eq_some_iff.mp hq2).1
        have h24 := F24.len
        refine w_nil (r_upd hq5 h5 ⟨by omega, szl _ (by simp [encG]; omega)⟩ (k_next (ws_nil (k_next (ws_nil ⟨_, rfl, ⟨_, rfl⟩, (Fb.trans (.of F25)).set (by simp) _, ?_, set_at hq5 _⟩)))))
        have Sq : q ≠ S := by omega
        exact ⟨by rw [List.getElem?_set_ne (by omega)]; exact F25.at N2.i, by rw [List.getElem?_set_ne (by omega)]; exact F25.at N2.t, by rw [List.getElem?_set_ne (by omega)]; exact F25.at N2.d⟩
    · rw [look_encG] at g
      have hin : f t ∈ (firstG NL f (Ts.take j)).map (·.1) := look_mem.mpr (by simpa using g)
      have hstep : fstep NL f (firstG NL f (Ts.take j)) t = firstG NL f (Ts.take j) := by unfold fstep; rw [if_pos hin]
      rw [hstep]
      exact ws_nil (k_next (ws_nil ⟨_, rfl, ⟨_, rfl⟩, Fa, N1', hq1⟩))
  · rintro env s ⟨⟨x, rfl⟩, F, N, hqs⟩
    rw [List.take_length] at N hqs
    obtain ⟨G1, g2, g3, g4⟩ := TC_ok ok hT (by omega : L.length ≤ 100)
    rw [hNLf] at hqs
    have hval := fun {t : D} (h : t ∈ Ts) => vf_of (L := L) (f := f) (S := fun x => x ∈ TC L Ts) (fun a b ha _ e => idx_inj ha e) g3 (Ts := Ts) g4 h
    refine k_next (ws_cons (ws_ret (w_dcompN (w_var rfl ⟨Ts, some tl, fun t => some (t, VF L Ts t), ?_, szl _ (by omega), ?_, ?_, ?_, ?_⟩))))
    · simp only [itOf, hts F]; rfl
    · intro d hd k y e
      cases e
      have := (hT d hd).ok
      cases (hT d hd).shape <;> exact this
    · exact fun s' F' => stays_l (hts F) F'
    · intro d hd s' F'
      have hN : Nb s' S A B' (TC L Ts) := ⟨F'.at N.i, F'.at N.t, F'.at N.d⟩
      refine w_turnD (env' := [some d, some (.loc q), some (.loc S)]) rfl (wi_nil (wp_t (w_var rfl (w_ix (w_var rfl (w_meth (w_var rfl ⟨S, _, rfl, hN.i, fsN_m, w_cons (w_var rfl (w_nil ((num_same (n := n + 1) (hT d hd) hN G1 (g4 d hd) (by omega)).imp ?_)))⟩)))))))
      rintro _ s2 ⟨rfl, _, F2⟩
      refine r_ixDct (F2.at (F'.at hqs)) rfl ?_ ⟨rfl, F2⟩
      rw [look_encG]
      exact (hval hd).1
    · intro s' F' h'
      have em : Ts.filterMap (fun t => some (t, VF L Ts t)) = Ts.map fun t => (t, VF L Ts t) := fm_some _ _
      rw [em] at h'
      refine k_ret (kf_ret ⟨s.length, rfl, ?_, ?_, h'⟩)
      · have := F.1; omega
      · intro j hj
        rw [F' j (by have := F.1; omega), keep F (by omega)]
        exact Fs1 j hj
end
section
variable {FF n k m : Nat} {st : Sto}
abbrev uk (x : String) : D := .tup [W "unknown", W x]
theorem tm_uk {m : Nat} {x : Str} (h : PyData.canLay0 (.str x) = true) : Tm (m + 1) (.tup [W "unknown", .str x]) := ⟨.unk _ h, by rw [inn_unk]; simp⟩
theorem tm_cl {m : Nat} {f : Str} {ts : List D} (h : PyData.canLay0 (.str f) = true) (hl : ts.length ≤ 3) (ht : ∀ t ∈ ts, Tm m t) : Tm (m + 1) (.tup [W "call", .str f, .tup ts]) := ⟨.call _ h ts hl, by rw [inn_call]; exact ht⟩
theorem lg : PyData.canLay0 (.str (Str.ofString "g")) = true := by decide +kernel
theorem lh : PyData.canLay0 (.str (Str.ofString "h")) = true := by decide +kernel
theorem lz : PyData.canLay0 (.str (Str.ofString "z")) = true := by decide +kernel
theorem lzz : PyData.canLay0 (.str (Str.ofString "zz")) = true := by decide +kernel
theorem lays {xs : List D} {i : Int} (hne : xs ≠ []) (h : ∀ d ∈ xs, ∃ z, d = .str z ∧ PyData.canLay0 (.str z) = true) : ∃ z, L2.atI xs (i.fmod (xs.length : Nat)) = some (.str z) ∧ PyData.canLay0 (.str z) = true := by
 obtain ⟨d, hd, e⟩ := atI_mod (i := i) hne
 obtain ⟨z, rfl, hz⟩ := h d hd
 exact ⟨z, e, hz⟩
theorem term_ok {x : Int} : Wr (C FF (n + 1) 10 [.int x] st) fun r s => Tm 4 r ∧ Fr st s := by
 refine w_fn [some (.int x), none, none] (b := c__law_term) rfl rfl (by decide) rfl ?_
 unfold c__law_term
 have la : PyData.canLay0 (.str (Str.ofString "a")) = true := by decide +kernel
 have lb : PyData.canLay0 (.str (Str.ofString "b")) = true := by decide +kernel
 have lc : PyData.canLay0 (.str (Str.ofString "c")) = true := by decide +kernel
 have ld : PyData.canLay0 (.str (Str.ofString "d")) = true := by decide +kernel
 have lab : PyData.canLay0 (.str (Str.ofString "ab")) = true := by decide +kernel
 have lba : PyData.canLay0 (.str (Str.ofString "ba")) = true := by decide +kernel
 obtain ⟨z, ez, hz⟩ := lays (xs := [W "a", W "b", W "c", W "d", W "ab", W "ba"]) (i := x) (by simp) (by
  intro d hd
  simp only [List.mem_cons, List.not_mem_nil, or_false] at hd
  rcases hd with rfl | rfl | rfl | rfl | rfl | rfl
  · exact ⟨_, rfl, la⟩
  · exact ⟨_, rfl, lb⟩
  · exact ⟨_, rfl, lc⟩
  · exact ⟨_, rfl, ld⟩
  · exact ⟨_, rfl, lab⟩
  · exact ⟨_, rfl, lba⟩)
 have ez : L2.atI [W "a", W "b", W "c", W "d", W "ab", W "ba"] (x.fmod 6) = some (.str z) := ez
 obtain ⟨y, ey, hy⟩ := lays (xs := [W "g", W "h"]) (i := x.fdiv 18) (by simp) (by
  intro d hd
  simp only [List.mem_cons, List.not_mem_nil, or_false] at hd
  rcases hd with rfl | rfl
  · exact ⟨_, rfl, lg⟩
  · exact ⟨_, rfl, lh⟩)
 have ey : L2.atI [W "g", W "h"] ((x.fdiv 18).fmod 2) = some (.str y) := ey
 repeat infer_instance
 refine r_ixL (lst_at (gg0.trans rfl)) ez ?_
 repeat infer_instance
 have F1 : Fr st (st ++ [Cell.lst [W "a", W "b", W "c", W "d", W "ab", W "ba"]]) := .app _
 generalize (st ++ [Cell.lst [W "a", W "b", W "c", W "d", W "ab", W "ba"]]) = s1 at *
 refine ⟨_, rfl, fun g => ?_, fun g => ?_⟩
 · repeat infer_instance
   refine r_ixL (lst_at (gg0.trans rfl)) ey ?_
   repeat infer_instance
   exact ⟨tm_cl hy (by simp) (fun t ht => by rw [List.mem_singleton.mp ht]; exact tm_uk hz), F1.trans (.app _)⟩
 · repeat infer_instance
   have fin : Tm 4 (D.tup [W "unknown", .str z]) ∧ Fr st s1 := ⟨tm_uk hz, F1⟩
   refine ⟨_, rfl, fun g2 => ?_, fun g2 => ?_⟩
   · repeat infer_instance
     refine ⟨_, rfl, fun g3 => ?_, fun g3 => ?_⟩
     · repeat infer_instance
       refine ⟨tm_cl lg (by simp) fun t ht => ?_, F1⟩
       rw [List.mem_singleton.mp ht]
       refine tm_cl lg (by simp) fun t ht => ?_
       rw [List.mem_singleton.mp ht]
       exact tm_uk hz
     · repeat infer_instance
       exact fin
   · repeat infer_instance
     exact fin
theorem cut_two {ns : List Int} {a b : Nat} : ∃ ms : List Int, cutD (ns.map D.int) (some (a : Int)) (some (b : Int)) = ms.map D.int ∧ ms.length ≤ b - a := by
 refine ⟨(ns.drop (HT.sIx ns.length 0 (some (a : Nat)))).take (HT.sIx ns.length ns.length (some (b : Nat)) - HT.sIx ns.length 0 (some (a : Nat))), ?_, ?_⟩
 · unfold cutD
   rw [List.map_take, List.map_drop, List.length_map]
 · rw [HT.sIx_nat, HT.sIx_nat, List.length_take, List.length_drop]
   omega
structure LI (Ts : List D) (L : List Lk) : Prop where
 tm : ∀ l ∈ L, l.2.1 ∈ Ts ∧ l.2.2 ∈ Ts
theorem LI.ok {Ts : List D} {L : List Lk} (h : LI Ts L) (ht : ∀ t ∈ Ts, Tm 4 t) : Ok4 L := fun l hl => ⟨ht _ (h.tm l hl).1, ht _ (h.tm l hl).2⟩
abbrev lawF : S := (.forE 5 [6] true (.sl 3 (.var 0) (.cons (.op .add (.cst (.int 1)) (.var 1)) (.cons (.op .add (.cst (.int 21)) (.var 1)) .nil))) (.cons (.set 7 (.call 9 (.cons (.var 6) (.cons (.cst (.int 2)) .nil)) [])) (.cons (.ex (.mt .append (.var 4) (.cons (.tupE (.cons (.var 5) (.cons (.ix (.var 3) (.op .mod (.ix (.var 7) (.cst (.int 0))) (.bt .lenB (.cons (.var 3) .nil)))) (.cons (.ix (.var 3) (.op .mod (.ix (.var 7) (.cst (.int 1))) (.bt .lenB (.cons (.var 3) .nil)))) .nil)))) .nil))) .nil)))
theorem links_ok {x0 q mn : Nat} {c2 : Option D} {ns : List Int} {Ts : List D} {tA : Sto} {QF : Fl → Sto → Prop} (hx : lstOf tA x0 = some (ns.map D.int)) (hq : tA[q]? = some (.lst Ts)) (hne : Ts ≠ []) (hT : Ts.length ≤ 100) (hF : 11 < FF)
    (go : ∀ (s : Sto) (L : List Lk) (a b c : Option D), Fr tA s → s[tA.length]? = some (.lst (L.map enc)) → LI Ts L → L.length ≤ 20 → QF (.next [some (.loc x0), some (.int (mn : Nat)), c2, some (.loc q), some (.loc tA.length), a, b, c, none, none, none, none, none]) s) :
    Wr (execS tab (C FF (n + 1)) FF lawF [some (.loc x0), some (.int (mn : Nat)), c2, some (.loc q), some (.loc tA.length), none, none, none, none, none, none, none, none] (tA ++ [.lst []])) QF := by
  unfold lawF
  obtain ⟨ms, hms, hml⟩ := cut_two (ns := ns) (a := 1 + mn) (b := 21 + mn)
  have hml : ms.length ≤ 20 := by omega
  refine ws_forE ?_
  repeat infer_instance
  refine ⟨_, rfl, ?_⟩
  repeat infer_instance
  refine ⟨_, rfl, ?_⟩
  repeat infer_instance
  refine r_slL (lo := some (1 + (mn : Nat))) (hi := some (21 + (mn : Nat))) rfl ((Fr.app _).lst hx) ?_
  have e1 : (1 : Int) + (mn : Nat) = ((1 + mn : Nat) : Int) := by omega
  have e2 : (21 : Int) + (mn : Nat) = ((21 + mn : Nat) : Int) := by omega
  rw [e1, e2, hms]
  generalize htB : (tA ++ [Cell.lst []]) ++ [Cell.lst (ms.map D.int)] = tB
  have lB : (tA ++ [Cell.lst []]).length = tA.length + 1 := by simp
  have l2B : tB.length = tA.length + 2 := by rw [← htB]; simp
  have hB : tB[tA.length + 1]? = some (.lst (ms.map D.int)) := by rw [← htB, ← lB]; exact gg0.trans rfl
  have hA : tB[tA.length]? = some (.lst []) := by rw [← htB]; exact (Fr.app _).at (gg0.trans rfl)
  have FB : Fr tA tB := by rw [← htB]; exact (Fr.app _).trans (.app _)
  rw [lB]
  have hql := (List.getElem?_eq_some_iff.mp hq).1
  refine ⟨ms.map D.int, some (tA.length + 1), ?_, ?_⟩
  · simp only [walkOf, Bool.false_eq_true, if_false, lst_at hB]; rfl
  refine w_loopE (fun i env s => ∃ (a b c : Option D) (L : List Lk), env = [some (.loc x0), some (.int (mn : Nat)), c2, some (.loc q), some (.loc tA.length), a, b, c, none, none, none, none, none] ∧ FrX tB.length tA.length tA.length tB s ∧ s[tA.length]? = some (.lst (L.map enc)) ∧ LI Ts L ∧ L.length = i) ?_ ⟨none, none, none, [], rfl, .refl _, hA, ⟨by simp⟩, rfl⟩ ?_ ?_
  · rintro i env s ⟨a, b, c, L, rfl, F, _⟩
    exact decide_eq_true (lst_at ((F.2 _ (by omega) (by omega) (by omega)).trans hB))
  · rintro j d hd env s ⟨a, b, c, L, rfl, F, hl, I, rfl⟩
    rw [en_get, List.getElem?_map] at hd
    cases hv : ms[L.length]? with
    | none => rw [hv] at hd; cases hd
    | some v =>
      rw [hv] at hd
      cases hd
      have hj := (List.getElem?_eq_some_iff.mp hv).1
      rw [Nat.zero_add]
      refine w_turnE (env' := [some (.loc x0), some (.int (mn : Nat)), c2, some (.loc q), some (.loc tA.length), some (.int (L.length : Nat)), some (.int v), c, none, none, none, none, none]) rfl ?_
      have hq1 : s[q]? = some (.lst Ts) := (F.2 q (by omega) (by omega) (by omega)).trans (FB.at hq)
      have hFl := F.1
      repeat infer_instance
      refine (stream_ok (n := n) (c := v) (M := 2) (by decide) hF).imp ?_
      rintro _ s1 ⟨qx, is, rfl, hqx, F1, hqi, his⟩
      match is, his with
      | [i1, i2], _ =>
        have hT0 : ((Ts.length : Nat) : Int) ≠ 0 := by have := List.length_pos_iff.mpr hne; omega
        have hl2 := F1.at hl
        repeat infer_instance
        refine ⟨rdy_lst hl2, ?_⟩
        obtain ⟨d1, hd1, e1⟩ := atI_mod (i := i1) hne
        obtain ⟨d2, hd2, e2⟩ := atI_mod (i := i2) hne
        repeat infer_instance
        refine r_ixL (lst_at hqi) (d := .int i1) rfl ?_
        repeat infer_instance
        refine r_lenL (lst_at (F1.at hq1)) (r_mod hT0 (r_ixL (lst_at (F1.at hq1)) e1 ?_))
        repeat infer_instance
        refine r_ixL (lst_at hqi) (d := .int i2) rfl ?_
        repeat infer_instance
        refine r_lenL (lst_at (F1.at hq1)) (r_mod hT0 (r_ixL (lst_at (F1.at hq1)) e2 ?_))
        repeat infer_instance
        refine r_append hl2 (Nat.lt_of_lt_of_le (by simp; omega : (L.map enc).length < 16000000) (by decide)) ?_
        repeat infer_instance
        refine ⟨_, rfl, _, _, _, L ++ [(((L.length : Nat) : Int), d1, d2)], rfl, ?_, ?_, ⟨fun l hl => ?_⟩, by simp⟩
        · refine F.trans ⟨by simpa using F1.len, fun z hz h1 h2 => ?_⟩
          rw [List.getElem?_set_ne (Ne.symm h1)]
          exact F1 z (by omega)
        · rw [set_at hl2]; simp [enc]
        · rcases List.mem_append.mp hl with z | z
          · exact I.tm l z
          · rw [List.mem_singleton.mp z]; exact ⟨hd1, hd2⟩
  · rintro env s ⟨a, b, c, L, rfl, F, hl, I, e⟩
    rw [en_len, List.length_map] at e
    refine go s L a b c (fun j hj => ?_) hl I (by omega)
    rw [F.2 j (by omega) (by omega) (by omega)]
    exact FB j hj
theorem ws_dputN {t : Nat → Ty → Option Bool} {call : DD.Or} {F : Nat} {env : DD.Env} {QF : Fl → Sto → Prop} {o k v : E} (h : Wr (evalE t call v env st) fun y s => Wr (evalE t call o env s) fun x s => Wr (evalE t call k env s) fun kk s => ∃ n kvs, x = .loc n ∧ s[n]? = some (.dcn kvs) ∧ keyN kk = true ∧ kvs.length < sizeLine ∧ QF (.next env) (s.set n (.dcn (dPut kvs kk y)))) : Wr (execS t call F (.dput o k v) env st) QF := by
 rw [execS]
 refine wr_bind (h.imp fun y s h => wr_bind (h.imp fun x s h => wr_bind (h.imp fun kk s h => ?_)))
 obtain ⟨n, kvs, rfl, h1, h2, h3, h4⟩ := h
 simp only [dctOf, dcnOf, h1, h2, h3, and_self, if_true]
 exact wr_ok h4
theorem tm_keyN {d : D} (h : Tm 4 d) : keyN d = true := by
 have := h.ok
 cases h.shape <;> exact this
abbrev lawD : S := (.forS [9] true false (.var 2) (.cons (.set 10 (.call 11 (.cons (.var 4) (.cons (.var 9) .nil)) [])) (.cons (.dput (.var 8) (.var 9) (.ix (.comp 0 true 1 [0] [10] (.var 2) (.cons (.cm .inL (.var 0) (.var 1)) .nil) (.var 0)) (.cst (.int 0)))) .nil)))
theorem due_ok {x0 lk q : Nat} {x1 x3 x5 x6 x7 : Option D} {L : List Lk} {Ts : List D} {tA : Sto} {QF : Fl → Sto → Prop} (hq : tA[q]? = some (.lst Ts)) (hl : tA[lk]? = some (.lst (L.map enc))) (ok : Ok4 L) (hT : ∀ t ∈ Ts, Tm 4 t) (hz : L.length ≤ 50) (hTz : Ts.length ≤ 50)
    (go : ∀ (s : Sto) (a b : Option D), Fr tA s → s[tA.length]? = some (.dcn (dMerge [] (Ts.map fun t => (t, VF L Ts t)))) → QF (.next [some (.loc x0), x1, some (.loc q), x3, some (.loc lk), x5, x6, x7, some (.loc tA.length), a, b, none, none]) s) :
    Wr (execS tab (C FF (n + 1)) FF lawD [some (.loc x0), x1, some (.loc q), x3, some (.loc lk), x5, x6, x7, some (.loc tA.length), none, none, none, none] (tA ++ [.dcn []])) QF := by
  unfold lawD
  refine ws_for (w_var rfl ⟨Ts, some q, ?_, ?_⟩)
  · simp only [walkOf, Bool.false_eq_true, if_false, lst_at ((Fr.app _).at hq)]; rfl
  have hql := (List.getElem?_eq_some_iff.mp hq).1
  refine w_loop (fun i env s => (∃ a b, env = [some (.loc x0), x1, some (.loc q), x3, some (.loc lk), x5, x6, x7, some (.loc tA.length), a, b, none, none]) ∧ Fr tA s ∧ s[tA.length]? = some (.dcn (dMerge [] ((Ts.take i).map fun t => (t, VF L Ts t))))) (fun i env s h => decide_eq_true (lst_at (h.2.1.at hq))) ⟨⟨none, none, rfl⟩, .app _, gg0.trans rfl⟩ ?_ ?_
  · rintro j t htj env s ⟨⟨a, b, rfl⟩, F, hd⟩
    have htin := List.mem_of_getElem? htj
    have htm := hT t htin
    have eT : dMerge [] ((Ts.take (j + 1)).map fun t => (t, VF L Ts t)) = dPut (dMerge [] ((Ts.take j).map fun t => (t, VF L Ts t))) t (VF L Ts t) := by
      rw [List.take_add_one, htj, Option.toList_some, List.map_append]
      simp [dMerge]
    rw [eT]
    have hml := merge_len ((Ts.take j).map fun t => (t, VF L Ts t)) []
    rw [List.length_map, List.length_take, List.length_nil] at hml
    generalize dMerge [] ((Ts.take j).map fun t => (t, VF L Ts t)) = kv at *
    refine w_turn (env' := [some (.loc x0), x1, some (.loc q), x3, some (.loc lk), x5, x6, x7, some (.loc tA.length), some t, b, none, none]) rfl ?_
    refine ws_cons (ws_set (w_call (w_cons (w_var rfl (w_cons (w_var rfl (w_nil ((law_reached (n := n) (lst_at (F.at hl)) ok htm (by omega)).imp ?_))))))))
    rintro _ s1 ⟨r, rfl, hr0, F1, hr⟩
    refine ⟨of_decide_eq_true rfl, ?_⟩
    have oka := htm.ok40 (by decide)
    have oR : ∀ x ∈ lawR L t, okN 40 x = true := lawR_gen (P := fun x => okN 40 x = true) (fun l hl => iff_of_true ((ok l hl).1.ok40 (by decide)) ((ok l hl).2.ok40 (by decide))) oka
    refine k_next (ws_cons (ws_dputN (w_ix (w_comp (w_var rfl ⟨Ts, some q, fun x => if decide (x ∈ lawR L t) = true then some x else none, ?_, szl _ (by omega), fun s F' => stays_l (lst_at (F1.at (F.at hq))) F', ?_, ?_⟩)))))
    · simp only [itOf, lst_at (F1.at (F.at hq))]; rfl
    · intro d hd s2 F2
      have okd := (hT d hd).ok40 (by decide)
      refine w_turnC (env' := [some d, some (.loc r)]) rfl ?_
      repeat infer_instance
      refine r_inL (lst_at (F2.at hr)) okd (all40 oR) ⟨_, rfl, fun g => ?_, fun g => ?_⟩
      · repeat infer_instance
        exact ⟨(if_pos g).symm, .refl _⟩
      · repeat infer_instance
        exact ⟨(if_neg (by rw [g]; simp)).symm, .refl _⟩
    · intro s2 F2 h2
      have hv : (Ts.filterMap fun x => if decide (x ∈ lawR L t) = true then some x else none)[0]? = some (VF L Ts t) := by
        rw [vf_head (Ts := Ts)]
        obtain ⟨y, hy⟩ : ∃ y, Ts.find? (fun x => decide (x ∈ lawR L t)) = some y := Option.isSome_iff_exists.mp (List.find?_isSome.mpr ⟨t, htin, decide_eq_true lawR_self⟩)
        unfold VF
        rw [hy]; rfl
      refine w_cst (r_ixL (lst_at h2) (d := VF L Ts t) (atI_get (i := 0) hv) ?_)
      have F12 := F1.trans F2
      have hd2 := F12.at hd
      refine w_var rfl (w_var rfl ⟨tA.length, kv, rfl, hd2, tm_keyN htm, Nat.lt_of_lt_of_le (by omega : kv.length < 16000000) (by decide), ?_⟩)
      exact k_next (ws_nil ⟨_, rfl, ⟨_, _, rfl⟩, (F.trans F12).set (Nat.le_refl _) _, set_at hd2 _⟩)
  · rintro env s ⟨⟨a, b, rfl⟩, F, hd⟩
    rw [List.take_length] at hd
    exact go s a b F hd
end
section
variable {FF n k m : Nat} {st : Sto}
theorem r_neSame {a b : D} {p : PyData} {Q : D → Sto → Prop} (ha : pyOf st 40 a = some p) (hb : pyOf st 40 b = some p) (h : Q (.bl false) st) : Wr (cmD .ne a b st) Q := by
 refine ⟨_, _, ?_, h⟩
 obtain ⟨h1, _⟩ := py_shape 40 a p ha
 simp only [cmD, DD.eqV, ha, hb, SeqAt.eqv_refl p h1, Bool.not_true]
theorem py_lst {x j : Nat} {xs : List D} (h : lstOf st x = some xs) (ho : ∀ d ∈ xs, okN j d = true) : ∃ p, pyOf st (j + 1) (.loc x) = some p ∧ p = .list (xs.filterMap fun d => pyOf st j d) := by
 have e : ∀ xs : List D, (∀ d ∈ xs, okN j d = true) → optAll (xs.map (pyOf st j)) = some (xs.filterMap fun d => pyOf st j d) := by
  intro xs
  induction xs with
  | nil => intro _; rfl
  | cons d r ih =>
   intro ho
   have hd := py_ok (st := st) (ho d (by simp)) (Nat.le_refl _)
   rw [List.map_cons, List.filterMap_cons, hd]
   simp only [optAll, ih fun x hx => ho x (by simp [hx]), Option.map_some]
 exact ⟨_, by simp only [pyOf, h, Option.bind_some, e xs ho, Option.map_some], rfl⟩
theorem enc_ok {L : List Lk} (ok : Ok4 L) : ∀ d ∈ L.map enc, okN 38 d = true := by
 intro d hd
 obtain ⟨l, hl, rfl⟩ := List.mem_map.mp hd
 have h1 := okN_mono (m := 37) (by decide) (ok l hl).1.ok
 have h2 := okN_mono (m := 37) (by decide) (ok l hl).2.ok
 simp only [enc, okN, List.all_cons, h1, h2, List.all_nil, Bool.and_self]
theorem py_two {x a b : Nat} {Ts Ls : List D} (h : lstOf st x = some [.loc a, .loc b]) (ha : lstOf st a = some Ts) (hb : lstOf st b = some Ls) (h1 : ∀ d ∈ Ts, okN 38 d = true) (h2 : ∀ d ∈ Ls, okN 38 d = true) : pyOf st 40 (.loc x) = some (.list [.list (Ts.filterMap fun d => pyOf st 38 d), .list (Ls.filterMap fun d => pyOf st 38 d)]) := by
 obtain ⟨p1, e1, rfl⟩ := py_lst (j := 38) ha h1
 obtain ⟨p2, e2, rfl⟩ := py_lst (j := 38) hb h2
 simp only [pyOf, h, Option.bind_some, List.map_cons, List.map_nil]
 simp only [pyOf] at e1 e2
 rw [e1, e2]
 rfl
theorem r_eqM {a b : D} {x : Bool} {Q : D → Sto → Prop} (h : eqN st a b = some x) (q : Q (.bl x) st) : Wr (mtD .eqM a [b] st) Q := ⟨_, _, by simp only [mtD, h], q⟩
theorem r_neM {a b : D} {x : Bool} {Q : D → Sto → Prop} (h : eqN st a b = some x) (q : Q (.bl (!x)) st) : Wr (mtD .neM a [b] st) Q := ⟨_, _, by simp only [mtD, h], q⟩
theorem r_clearN {q : Nat} {kvs : List (D × D)} {Q : D → Sto → Prop} (h : st[q]? = some (.dcn kvs)) (hq : Q .non (st.set q (.dcn []))) : Wr (mtD .clearN (.loc q) [] st) Q := ⟨_, _, by simp only [mtD, dcnOf, h], hq⟩
theorem rdy_dcn {m : Mt} {q : Nat} {kvs : List (D × D)} (g : st[q]? = some (.dcn kvs)) (hm : rdy m st (.loc q) = (dcnOf st q).isSome := by rfl) : rdy m st (.loc q) = true := by rw [hm]; simp only [dcnOf, g, Option.isSome_some]
theorem eqN_same {a b : Nat} {kvs : List (D × D)} (ha : st[a]? = some (.dcn kvs)) (hb : st[b]? = some (.dcn kvs)) (hn : (kvs.map (·.1)).Nodup) (ho : ∀ p ∈ kvs, okN 40 p.2 = true) : eqN st (.loc a) (.loc b) = some true := by
 simp only [eqN, dcnOf, ha, hb, if_true]
 exact hits_self hn ho fun p h => h
theorem wt_mt {t : Nat → Ty → Option Bool} {call : DD.Or} {env : DD.Env} {m : Mt} {o : E} {es : Es} {QB : Bool → Sto → Prop} (h : Wr (evalE t call o env st) fun x s => rdy m s x = true ∧ Wr (evalEs t call es env s) fun ds s => Wr (mtD m x ds s) fun d s => ∃ c, truth s d = some c ∧ QB c s) : Wr (evalT t call (.mt m o es) env st) QB := by
 rw [evalT]
 refine wr_bind (h.imp fun x s h => ?_)
 rw [if_pos h.1]
 refine wr_bind (h.2.imp fun ds s h => wr_bind (h.imp fun d s h => ?_))
 obtain ⟨c, h1, h⟩ := h
 simp only [h1]
 exact wr_ok h
abbrev lawT : Ss := (.cons (.set 11 (.lstE (.cons (.bt .listB (.cons (.var 2) .nil)) (.cons (.bt .listB (.cons (.var 4) .nil)) .nil)))) (.cons (.set 12 (.call 7 (.cons (.ix (.var 11) (.cst (.int 0))) (.cons (.ix (.var 11) (.cst (.int 1))) .nil)) [])) (.cons (.ifS (.orE (.notE (.isi (.var 12) (.b "dict"))) (.orE (.mt .neM (.var 12) (.cons (.var 8) .nil)) (.cm .ne (.var 11) (.lstE (.cons (.var 2) (.cons (.var 4) .nil)))))) (.cons (.ret (.cst (.bl false))) .nil) .nil) (.cons (.ex (.mt .clearN (.var 12) .nil)) (.cons (.ret (.mt .eqM (.call 7 (.cons (.var 2) (.cons (.var 4) .nil)) []) (.cons (.var 8) .nil))) .nil)))))
theorem vf_ok {L : List Lk} {Ts : List D} (hT : ∀ t ∈ Ts, Tm 4 t) : (((dMerge [] (Ts.map fun t => (t, VF L Ts t))).map (·.1)).Nodup) ∧ ∀ p ∈ dMerge [] (Ts.map fun t => (t, VF L Ts t)), okN 40 p.2 = true := by
 refine ⟨merge_nodup _ _ (by simp), fun p hp => ?_⟩
 rcases merge_mem hp with z | z
 · cases z
 · obtain ⟨t, ht, rfl⟩ := List.mem_map.mp z
   obtain ⟨y, hy⟩ : ∃ y, Ts.find? (fun x => decide (x ∈ lawR L t)) = some y := Option.isSome_iff_exists.mp (List.find?_isSome.mpr ⟨t, ht, decide_eq_true lawR_self⟩)
   have : VF L Ts t = y := by unfold VF; rw [hy]; rfl
   show okN 40 (VF L Ts t) = true
   rw [this]
   exact (hT y (List.mem_of_find?_eq_some hy)).ok40 (by decide)
theorem tail_ok {x0 tl lk du : Nat} {x1 x3 x5 x6 x7 x9 x10 : Option D} {L : List Lk} {Ts : List D} (ht : st[tl]? = some (.lst Ts)) (hl : st[lk]? = some (.lst (L.map enc))) (hd : st[du]? = some (.dcn (dMerge [] (Ts.map fun t => (t, VF L Ts t))))) (ok : Ok4 L) (hT : ∀ t ∈ Ts, Tm 4 t) (hz : L.length ≤ 50) (hTz : Ts.length ≤ 50) (hF : 200 < FF) :
    Wr (execSs tab (C FF (n + 7)) FF lawT [some (.loc x0), x1, some (.loc tl), x3, some (.loc lk), x5, x6, x7, some (.loc du), x9, x10, none, none] st) (Kf fun d _ => d = .bl true) := by
  unfold lawT
  obtain ⟨vn, vo⟩ := vf_ok (L := L) hT
  have okT : ∀ d ∈ Ts, okN 38 d = true := fun d hd => okN_mono (by decide) (hT d hd).ok
  have okL := enc_ok ok
  generalize hKV : dMerge [] (Ts.map fun t => (t, VF L Ts t)) = KV at *
  have hs1 : seqOf st (.loc tl) = some Ts := lst_at ht
  have F1 : Fr st (st ++ [Cell.lst Ts]) := .app _
  have h1 : (st ++ [Cell.lst Ts])[st.length]? = some (.lst Ts) := gg0.trans rfl
  have hs2 : seqOf (st ++ [Cell.lst Ts]) (.loc lk) = some (L.map enc) := lst_at (F1.at hl)
  repeat infer_instance
  refine r_listB hs1 ?_
  generalize hq1 : st.length = q1 at *
  generalize hsA : st ++ [Cell.lst Ts] = sA at *
  repeat infer_instance
  refine r_listB hs2 ?_
  have h2 : (sA ++ [Cell.lst (L.map enc)])[sA.length]? = some (.lst (L.map enc)) := gg0.trans rfl
  have F2 : Fr sA (sA ++ [Cell.lst (L.map enc)]) := .app _
  generalize hq2 : sA.length = q2 at *
  generalize hsB : sA ++ [Cell.lst (L.map enc)] = sB at *
  repeat infer_instance
  have h3 : (sB ++ [Cell.lst [.loc q1, .loc q2]])[sB.length]? = some (.lst [.loc q1, .loc q2]) := gg0.trans rfl
  have F3 : Fr sB (sB ++ [Cell.lst [.loc q1, .loc q2]]) := .app _
  generalize hq3 : sB.length = q3 at *
  generalize hsC : sB ++ [Cell.lst [.loc q1, .loc q2]] = sC at *
  have FC : Fr st sC := F1.trans (F2.trans F3)
  have c1 := (F2.trans F3).at h1
  have c2 := F3.at h2
  refine r_ixL (lst_at h3) (d := .loc q1) rfl ?_
  repeat infer_instance
  refine r_ixL (lst_at h3) (d := .loc q2) rfl ?_
  repeat infer_instance
  refine (classes_ok (n := n) (lst_at c1) (lst_at c2) ok hT hz hTz hF).imp ?_
  rintro _ sD ⟨qd, rfl, hqd, FD, hdd⟩
  rw [hKV] at hdd
  refine ⟨of_decide_eq_true rfl, ?_⟩
  have dd := FD.at (FC.at hd)
  repeat infer_instance
  refine ⟨.b "dict", true, ?_, rfl, ?_⟩
  · simp only [tyOf, hdd, Option.bind_some, cellTy]
  refine wp_nt ?_
  repeat infer_instance
  refine wt_mt ?_
  repeat infer_instance
  refine ⟨rdy_dcn hdd, ?_⟩
  repeat infer_instance
  refine r_neM (eqN_same hdd dd vn vo) ⟨_, rfl, ?_⟩
  refine wp_nt ?_
  repeat infer_instance
  have h4 : (sD ++ [Cell.lst [.loc tl, .loc lk]])[sD.length]? = some (.lst [.loc tl, .loc lk]) := gg0.trans rfl
  have F4 : Fr sD (sD ++ [Cell.lst [.loc tl, .loc lk]]) := .app _
  generalize hq4 : sD.length = q4 at *
  generalize hsE : sD ++ [Cell.lst [.loc tl, .loc lk]] = sE at *
  have FE := FD.trans F4
  refine r_neSame (py_two (lst_at (FE.at h3)) (lst_at (FE.at c1)) (lst_at (FE.at c2)) okT okL) (py_two (lst_at h4) (lst_at (FE.at (FC.at ht))) (lst_at (FE.at (FC.at hl))) okT okL) ⟨_, rfl, wp_f (ws_nil (k_next ?_))⟩
  have hdE := F4.at hdd
  refine ws_cons (ws_ex (w_mt (w_var rfl ⟨rdy_dcn hdE, w_nil (r_clearN hdE (k_next ?_))⟩)))
  have hne : ∀ {z : Nat}, z < st.length → z ≠ qd := fun {z} h e => by
    have := FC.len
    omega
  have tlt := (List.getElem?_eq_some_iff.mp ht).1
  have llt := (List.getElem?_eq_some_iff.mp hl).1
  have dlt := (List.getElem?_eq_some_iff.mp hd).1
  have g1 : (sE.set qd (.dcn []))[tl]? = some (.lst Ts) := by rw [List.getElem?_set_ne (Ne.symm (hne tlt))]; exact FE.at (FC.at ht)
  have g2 : (sE.set qd (.dcn []))[lk]? = some (.lst (L.map enc)) := by rw [List.getElem?_set_ne (Ne.symm (hne llt))]; exact FE.at (FC.at hl)
  have g3 : (sE.set qd (.dcn []))[du]? = some (.dcn KV) := by rw [List.getElem?_set_ne (Ne.symm (hne dlt))]; exact FE.at (FC.at hd)
  generalize sE.set qd (.dcn []) = sF at *
  refine ws_cons (ws_ret (w_mt (w_call (w_cons (w_var rfl (w_cons (w_var rfl (w_nil ((classes_ok (n := n) (lst_at g1) (lst_at g2) ok hT hz hTz hF).imp ?_)))))))))
  rintro _ sG ⟨qg, rfl, _, FG, hdg⟩
  rw [hKV] at hdg
  exact ⟨rdy_dcn hdg, w_cons (w_var rfl (w_nil (r_eqM (eqN_same hdg (FG.at g3) vn vo) (k_ret (kf_ret rfl)))))⟩
theorem law_true {ns : List Int} (hx : lstOf st 0 = some (ns.map D.int)) (hF : 200 < FF) : Wr (C FF (n + 8) 12 [.loc 0] st) fun d _ => d = .bl true := by
 refine w_fn [some (.loc 0), none, none, none, none, none, none, none, none, none, none, none, none] (b := c_law) rfl rfl (by decide) rfl ?_
 unfold c_law
 refine ws_cons (ws_set (w_op (w_call (w_cons (w_var rfl (w_cons (w_cst (w_nil ((cell_at (n := n + 6) (j := 0) hx).imp ?_)))))))))
 rintro _ s0 ⟨rfl, c0, rfl⟩
 refine w_cst (r_mod (by decide) ⟨of_decide_eq_true rfl, ?_⟩)
 obtain ⟨mn, hmn, hm13⟩ : ∃ mn : Nat, c0.fmod 13 = (mn : Nat) ∧ mn < 13 := by
  have := fm (i := c0) (j := 13) (by decide)
  exact ⟨(c0.fmod 13).toNat, by omega, by omega⟩
 rw [hmn]
 obtain ⟨ms, hms, hml⟩ := cut_two (ns := ns) (a := 1) (b := 1 + mn)
 have e1 : (1 : Int) + (mn : Nat) = ((1 + mn : Nat) : Int) := by omega
 refine k_next (ws_cons (ws_set (w_compR ?_)))
 repeat infer_instance
 refine ⟨_, rfl, ?_⟩
 repeat infer_instance
 refine ⟨_, rfl, ?_⟩
 repeat infer_instance
 refine r_slL (lo := some 1) (hi := some (1 + (mn : Nat))) rfl hx ?_
 rw [e1]
 have hms : cutD (ns.map D.int) (some 1) (some ((1 + mn : Nat) : Int)) = ms.map D.int := hms
 rw [hms]
 have hF1 : Fr s0 (s0 ++ [Cell.lst (ms.map D.int)]) := .app _
 have h1 : (s0 ++ [Cell.lst (ms.map D.int)])[s0.length]? = some (.lst (ms.map D.int)) := gg0.trans rfl
 generalize hsl : s0 ++ [Cell.lst (ms.map D.int)] = s1 at *
 refine ⟨ms.map D.int, some s0.length, fun i ys t => Fr s1 t ∧ ys.length = i ∧ ∀ y ∈ ys, Tm 4 y, ?_, szl _ (by simp; omega), fun i ys t h => stays_l (lst_at h1) h.1, ⟨.app _, rfl, by simp⟩, ?_, ?_⟩
 · simp only [itOf, lst_at h1]; rfl
 · rintro j d hd t ys ⟨Ft, hyl, hyt⟩ hy
   rw [List.getElem?_map] at hd
   cases hv : ms[j]? with
   | none => rw [hv] at hd; cases hd
   | some v =>
    rw [hv] at hd; cases hd
    refine w_turnC (env' := [some (.int v)]) rfl (wi_nil (wp_t (w_call (w_cons (w_var rfl (w_nil ((term_ok (n := n + 6)).imp ?_)))))))
    rintro y t2 ⟨hy2, F2⟩
    refine ⟨F2.at hy, .inl ⟨y, rfl, (Ft.trans F2).set (Nat.le_refl _) _, by simp [hyl], fun z hz => ?_⟩⟩
    rcases List.mem_append.mp hz with q | q
    · exact hyt z q
    · rw [List.mem_singleton.mp q]; exact hy2
 · rintro s2 Ts ⟨F2, hTl, hT⟩ h2
   rw [List.length_map] at hTl
   have hTz : Ts.length ≤ 12 := by omega
   refine ⟨of_decide_eq_true rfl, ?_⟩
   have F02 := hF1.trans F2
   generalize hq2 : s1.length = q2 at *
   refine k_next ?_
   have tz : Tm 4 (uk "z") := tm_uk lz
   have tzz : Tm 4 (uk "zz") := tm_uk lzz
   have tch : Tm 4 (D.tup [W "call", W "h", .tup [uk "z"]]) := tm_cl lh (by simp) fun t ht => by rw [List.mem_singleton.mp ht]; exact tm_uk lz
   repeat infer_instance
   refine r_addL ((Fr.app _).at h2) (gg0.trans rfl) (szl _ (by simp; omega)) ?_
   have F3 : Fr s2 ((s2 ++ [Cell.lst [uk "z", uk "zz", .tup [W "call", W "h", .tup [uk "z"]]]]) ++ [Cell.lst (Ts ++ [uk "z", uk "zz", .tup [W "call", W "h", .tup [uk "z"]]])]) := (Fr.app _).trans (.app _)
   have h3 : ((s2 ++ [Cell.lst [uk "z", uk "zz", .tup [W "call", W "h", .tup [uk "z"]]]]) ++ [Cell.lst (Ts ++ [uk "z", uk "zz", .tup [W "call", W "h", .tup [uk "z"]]])])[(s2 ++ [Cell.lst [uk "z", uk "zz", .tup [W "call", W "h", .tup [uk "z"]]]]).length]? = some (.lst (Ts ++ [uk "z", uk "zz", .tup [W "call", W "h", .tup [uk "z"]]])) := gg0.trans rfl
   have hS : ∀ t ∈ Ts ++ [uk "z", uk "zz", .tup [W "call", W "h", .tup [uk "z"]]], Tm 4 t := fun t ht => by
    rcases List.mem_append.mp ht with z | z
    · exact hT t z
    · simp only [List.mem_cons, List.not_mem_nil, or_false] at z
      rcases z with rfl | rfl | rfl
      · exact tz
      · exact tzz
      · exact tch
   have hSn : Ts ++ [uk "z", uk "zz", .tup [W "call", W "h", .tup [uk "z"]]] ≠ [] := by simp
   have hSl : (Ts ++ [uk "z", uk "zz", .tup [W "call", W "h", .tup [uk "z"]]]).length ≤ 100 := by simp; omega
   generalize (s2 ++ [Cell.lst [uk "z", uk "zz", .tup [W "call", W "h", .tup [uk "z"]]]]).length = q3 at *
   generalize ((s2 ++ [Cell.lst [uk "z", uk "zz", .tup [W "call", W "h", .tup [uk "z"]]]]) ++ [Cell.lst (Ts ++ [uk "z", uk "zz", .tup [W "call", W "h", .tup [uk "z"]]])]) = s3 at *
   generalize Ts ++ [uk "z", uk "zz", .tup [W "call", W "h", .tup [uk "z"]]] = Ss at *
   refine ⟨of_decide_eq_true rfl, ?_⟩
   have F03 := F02.trans F3
   refine k_next (ws_cons (ws_set (w_lst (w_nil ⟨szl 0 (by decide), of_decide_eq_true rfl, ?_⟩))))
   refine k_next (ws_cons (links_ok (n := n + 6) (F03.lst hx) h3 hSn hSl (by omega) ?_))
   intro s4 L a b c F4 hl I hL
   have okL := I.ok hS
   have h24 := F4.at (F3.at h2)
   refine k_next (ws_cons (ws_set (w_dnewN ⟨of_decide_eq_true rfl, ?_⟩)))
   refine k_next (ws_cons (due_ok (n := n + 6) h24 hl okL hT (by omega) (by omega) ?_))
   intro s5 a b F5 hd
   exact k_next (tail_ok (n := n) (F5.at h24) (F5.at hl) hd okL hT (by omega) (by omega) hF)
end
abbrev calls : Nat := 8
theorem law_end : ∀ ns : List Int, ns.length ≤ 63 → ∃ FF st, runLaw FF calls [.loc 0] [.frz (ns.map D.int)] = .ok (.bl true) st := fun ns _ => by
 have h : lstOf [Cell.frz (ns.map D.int)] 0 = some (ns.map D.int) := rfl
 obtain ⟨d, s, e, rfl⟩ := law_true (FF := 300) (n := 0) h (by decide)
 exact ⟨300, s, e⟩
end My
open PySem PySem.W PyProof.Rows
set_option maxRecDepth 100000 in
set_option maxHeartbeats 0 in
theorem PySem.Challenge.cw_partproof_k33_classes_holds : PySem.Challenge.rw_partproof_k33_classes.Holds := by
 w_on; o_law; k_head; (case hw => w_witness2)
 k_fill
 refine My.walk (n := My.calls) (l := PySem.Challenge.rw_partproof_k33_classes) rfl rfl rfl ⟨rfl, by decide, by decide⟩ (fun w h Y => PySem.W.kIn_of Y) ?lawTop ?lawEnd
 case lawTop =>
  intro w mg h KX G
  refine' My.top_mk w KX G ?ac0 ?a0 ?l0 ?c0 ?k0 ?a1 ?l1 ?c1 ?k1 ?a2 ?i2 ?l2 ?c2 ?k2 ?a3 ?i3 ?l3 ?c3 ?k3 ?a4 ?l4 ?c4 ?k4 ?a5 ?l5 ?c5 ?k5 ?a6 ?l6 ?c6 ?k6 ?a7 ?l7 ?c7 ?k7 ?a8 ?l8 ?c8 ?k8 ?a9 ?l9 ?c9 ?k9 ?a10 ?l10 ?c10 ?k10 ?a11 ?l11 ?c11 ?k11 ?a12 ?l12 ?c12 ?k12 ?pg0 ?hd0 ?po0 ?sa0 ?na_Numbering_numbers ?na_Numbering_terms ?mk0 ?kc0 ?z_dict ?z_enumerate ?z_isinstance ?z_len ?z_list ?z_range ?z_tuple
  (case ac0 => k_is)
  (case a0 => k_is)
  (case l0 => k_is)
  (case c0 => k_is)
  (case k0 => k_is)
  (case a1 => k_is)
  (case l1 => k_is)
  (case c1 => k_is)
  (case k1 => k_is)
  (case a2 => k_is)
  (case i2 => k_is)
  (case l2 => k_is)
  (case c2 => k_is)
  (case k2 => k_is)
  (case a3 => k_is)
  (case i3 => k_is)
  (case l3 => k_is)
  (case c3 => k_is)
  (case k3 => k_is)
  (case a4 => k_is)
  (case l4 => k_is)
  (case c4 => k_is)
  (case k4 => k_is)
  (case a5 => k_is)
  (case l5 => k_is)
  (case c5 => k_is)
  (case k5 => k_is)
  (case a6 => k_is)
  (case l6 => k_is)
  (case c6 => k_is)
  (case k6 => k_is)
  (case a7 => k_is)
  (case l7 => k_is)
  (case c7 => k_is)
  (case k7 => k_is)
  (case a8 => k_is)
  (case l8 => k_is)
  (case c8 => k_is)
  (case k8 => k_is)
  (case a9 => k_is)
  (case l9 => k_is)
  (case c9 => k_is)
  (case k9 => k_is)
  (case a10 => k_is)
  (case l10 => k_is)
  (case c10 => k_is)
  (case k10 => k_is)
  (case a11 => k_is)
  (case l11 => k_is)
  (case c11 => k_is)
  (case k11 => k_is)
  (case a12 => k_is)
  (case l12 => k_is)
  (case c12 => k_is)
  (case k12 => k_is)
  (case pg0 => k_is)
  (case hd0 => k_is)
  (case po0 => k_is)
  (case sa0 => k_is)
  (case na_Numbering_numbers => k_is)
  (case na_Numbering_terms => k_is)
  (case mk0 => k_is)
  (case kc0 => k_is)
  (case z_dict => k_is)
  (case z_enumerate => k_is)
  (case z_isinstance => k_is)
  (case z_len => k_is)
  (case z_list => k_is)
  (case z_range => k_is)
  (case z_tuple => k_is)
 case lawEnd => exact My.law_end
